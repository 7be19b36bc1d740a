"""Join order: the tables of joined rows in the order that is expected to be cheapest."""

from tablestack.access import expected_rows
from tablestack.plans import fields_in, inputs, moved_fields, width, with_inputs
from tablestack.rewrite import all_of, bound_conjuncts, inner_orders

MOST_JOINED = 6


def is_inner_join(plan):
    """Return True if a plan is a join that is no left join."""
    return plan[0] == "join" and not plan[1]


def leaves_and_tests(plan, shift):
    """Return (plans, conditions) that an inner join joins, conditions with places in all columns side by side."""
    if not is_inner_join(plan):
        return ((plan,), ())
    _, _, test, one, other = plan
    first, tests = leaves_and_tests(one, shift)
    second, more = leaves_and_tests(other, shift + width(one))
    own = () if test is None else bound_conjuncts(test)
    return (first + second, tests + more + tuple([shifted(tree, shift) for tree in own]))


def shifted(tree, shift):
    """Return an expression whose fields stand so many places further on."""
    return moved_fields(tree, {place: place + shift for place in fields_in(tree)})


def subsets(numbers, size):
    """Return all ascending rows of so many of some ascending numbers, in order."""
    if size < 0:
        return []
    found = [((), 0)]
    for _ in range(size):
        found = [((*row, numbers[at]), at + 1) for row, start in found for at in range(start, len(numbers))]
    return [row for row, start in found]


class Joiner:
    """The plans to join, where their columns stand, the conditions, and how many rows tables have."""

    def __init__(self, plans, tests, counts):
        self.plans = tuple(plans)
        self.tests = tuple(tests)
        self.counts = counts
        self.widths = [width(plan) for plan in plans]
        self.read_places = [fields_in(test) for test in tests]

    def columns_of(self, order):
        """Return a table of the places of some plans' columns to where they stand if the plans stand in an order."""
        places = {}
        for number in order:
            start = sum(self.widths[:number])
            for place in range(start, start + self.widths[number]):
                places[place] = len(places)
        return places

    def joined_plan(self, order):
        """Return the plan that joins the plans from the left in an order, each condition as early as it can stand."""
        plan = self.plans[order[0]]
        left = list(range(len(self.tests)))
        for many in range(2, len(order) + 1):
            places = self.columns_of(order[:many])
            ready = [at for at in left if all([place in places for place in self.read_places[at]])]
            left = [at for at in left if at not in ready]
            test = all_of([moved_fields(self.tests[at], places) for at in ready])
            plan = ("join", False, test, plan, self.plans[order[many - 1]])
        return plan

    def cost(self, plan):
        """Return the number of rows that a plan's joins are expected to make, inner ones too."""
        many = sum([self.cost(one) for one in inputs(plan)])
        if plan[0] == "join":
            return many + expected_rows(plan, self.counts)
        return many

    def best_order(self):
        """Return the order of the least expected cost, the earliest numbers first among equals."""
        numbers = tuple(range(len(self.plans)))
        best = {(number,): (number,) for number in numbers}
        for size in range(2, len(numbers) + 1):
            for some in subsets(numbers, size):
                orders = [(*best[without(some, last)], last) for last in some]
                cost, order = min([(self.cost(self.joined_plan(one)), one) for one in orders])
                best[some] = order
        return best.get(numbers, ())


def without(numbers, one):
    """Return numbers but one of them."""
    return tuple([number for number in numbers if number != one])


def reorder(plan, counts):
    """Return an equivalent plan with inner joins of up to six plans in the cheapest expected order."""
    return reordered(plan, counts, False)


def reordered(plan, counts, is_wanted):
    """Return a plan with reordered joins, but for those whose rows' order is wanted, since a limit cuts them."""
    if is_inner_join(plan) and not is_wanted:
        plans, tests = leaves_and_tests(plan, 0)
        if len(plans) <= MOST_JOINED:
            return in_best_order([reordered(one, counts, False) for one in plans], tests, counts)
    wanted = inner_orders(plan, is_wanted)
    return with_inputs(plan, [reordered(one, counts, wanted[place]) for place, one in enumerate(inputs(plan))])


def in_best_order(plans, tests, counts):
    """Return the plan that joins plans in the cheapest expected order, with their columns in order."""
    joiner = Joiner(plans, tests, counts)
    order = joiner.best_order()
    plan = joiner.joined_plan(order)
    places = joiner.columns_of(order)
    fields = [("field", 0, places[place]) for place in range(len(places))]
    if order == tuple(range(len(plans))):
        return plan
    return ("project", tuple(fields), plan)
