"""Physical plans: how a plan's rows are found: by scans or key ranges, by nested, hashed or merged joins."""

from tablestack.access import asked_of, key_range, selectivity
from tablestack.errors import KindFault, TextError
from tablestack.evaluate import Evaluator, first_of, operation_rows, ranks_of
from tablestack.exprcode import compile_expression, run_rows
from tablestack.plans import fields_in, has_query, inputs, moved_fields, width, with_inputs
from tablestack.rewrite import all_of, bound_conjuncts
from tablestack.sorting import sort_rows
from tablestack.statistics import expected_share
from tablestack.values import row_rank

JOINS = ("nested", "hash", "merge")
# Ways to join by equal sides, the one that is taken if both may be used first.
EQUAL_JOINS = ("hash", "merge")


class Chooser:
    """The catalog, how many rows tables have, and whether indexes and hashed or merged joins may be used."""

    def __init__(self, catalog, counts, indexed=True, joins=JOINS, summaries=None):
        self.catalog = catalog
        self.counts = counts
        self.indexed = indexed
        self.joins = tuple(joins)
        self.summaries = {} if summaries is None else summaries

    def chosen(self, plan):
        """Return the physical plan of a plan: filters of scans by key ranges, joins by how they are carried out."""
        if self.indexed and plan[0] == "filter" and plan[2][0] == "scan":
            name = plan[2][1]
            way = self.best_way(name, plan[1])
            if way is not None:
                return ("range", name, way, plan[1])
        inner = [self.chosen(one) for one in inputs(plan)]
        if plan[0] == "join":
            return self.chosen_join(plan, inner)
        return with_inputs(plan, inner)

    def chosen_join(self, plan, inner):
        """Return the physical plan of a join of physical plans."""
        _, left, test, one, other = plan
        pairs, rest = equal_pairs(test, width(one))
        for word in EQUAL_JOINS:
            if pairs != () and word in self.joins:
                return (word, left, pairs, rest, *inner, width(other))
        return ("nested", left, test, *inner, width(other))

    def best_way(self, name, test):
        """Return (index name, or None for the primary key, bounds) of the way that expects the fewest rows, or None.

        Among ways that expect as many the primary key is taken first, then indexes by their names.
        """
        table = self.catalog.table_named(name)
        ways = [(None, table.primary), *[(index.name, index.places) for index in self.catalog.indexes_of(table)]]
        best = None
        fewest = 0
        for index, places in ways:
            bounds = asked_of(test, places)
            if not bounds.is_open():
                many = self.expected(name, places, bounds)
                if best is None or many < fewest:
                    best = (index, bounds)
                    fewest = many
        return best

    def expected(self, name, places, bounds):
        """Return the number of rows that bounds are expected to leave, by the table's summaries if there are some."""
        many = self.counts.get(name, 0)
        if name not in self.summaries:
            return selectivity(bounds, many)
        sides = [(places[at], "=", literal_of(tree)) for at, tree in enumerate(bounds.equals)]
        for bound in (bounds.low, bounds.high):
            if bound is not None:
                sides.append((places[len(bounds.equals)], bound[0], literal_of(bound[1])))
        return expected_share(self.summaries[name], sides, many)


def equal_pairs(test, many):
    """Return (((expression of one side, of the other side), ..), condition or None): what a join's condition asks.

    The first side has so many columns; the expressions of the other side have its own places.
    """
    if test is None:
        return ((), None)
    pairs = []
    rest = []
    for tree in bound_conjuncts(test):
        pair = equal_pair(tree, many)
        if pair is None:
            rest.append(tree)
        else:
            pairs.append(pair)
    return (tuple(pairs), all_of(rest))


def equal_pair(tree, many):
    """Return the two sides of a condition that asks them to be equal, one side's expression first, or None."""
    if tree[0] != "cmp" or tree[1] != "=":
        return None
    _, _, one, other = tree
    if is_of_first(one, many) and is_of_second(other, many):
        return (one, moved_back(other, many))
    if is_of_first(other, many) and is_of_second(one, many):
        return (other, moved_back(one, many))
    return None


def is_of_first(tree, many):
    """Return True if an expression reads the first so many columns alone."""
    places = fields_in(tree)
    return places != () and places[-1] < many


def is_of_second(tree, many):
    """Return True if an expression reads the columns behind the first so many alone."""
    places = fields_in(tree)
    return places != () and places[0] >= many


def moved_back(tree, many):
    """Return an expression whose fields stand so many places further ahead."""
    return moved_fields(tree, {place: place - many for place in fields_in(tree)})


def literal_of(tree):
    """Return the value of a literal, None for another bound expression."""
    if tree[0] in ("int", "text"):
        return tree[1]
    return None


def physical_inputs(plan):
    """Return the physical plans that a physical plan reads, in order."""
    if plan[0] == "range":
        return ()
    if plan[0] == "nested":
        return plan[3:5]
    if plan[0] in EQUAL_JOINS:
        return plan[4:6]
    return inputs(plan)


def plan_words(plan):
    """Return the words of a physical plan's operations, each after the one that reads it, in order."""
    words = [plan[0]]
    for one in physical_inputs(plan):
        words.extend(plan_words(one))
    return words


def run_plan(plan, source, compiled=False, limit=0):
    """Return the rows of a physical plan over a source of tables' rows.

    Conditions may be compiled, and rows sorted in runs of at most so many, 0 for all at once.
    """
    return Runner(Evaluator(source), compiled, limit).rows_of(plan)


class Condition:
    """A condition on rows, None for one that always holds, and its code if conditions are compiled."""

    def __init__(self, tree, evaluator, compiled):
        self.tree = tree
        self.evaluator = evaluator
        self.code = None
        if compiled and tree is not None and not has_query(tree):
            self.code = compile_expression(tree)

    def holds(self, row):
        """Return True if the condition is true of a row."""
        if self.tree is None:
            return True
        if self.code is None:
            return self.evaluator.within(row).value_of(self.tree) is True
        try:
            return run_rows(self.code, (row, *self.evaluator.rows)) is True
        except KindFault:
            # Code reaches both sides of an "and"; what counts is whether the side that faults is reached otherwise.
            return self.evaluator.within(row).value_of(self.tree) is True


class Runner:
    """Carries out physical plans: how expressions are evaluated, whether conditions are compiled, how long runs are."""

    def __init__(self, evaluator, compiled, limit):
        self.evaluator = evaluator
        self.compiled = compiled
        self.limit = limit

    def rows_of(self, plan):
        """Return the rows of a physical plan, in the order that the plain way gives."""
        inner = [self.rows_of(one) for one in physical_inputs(plan)]
        if plan[0] in WAYS:
            way = WAYS[plan[0]]
            return way(self, plan, inner)
        return operation_rows(self.evaluator, plan, inner)

    def condition(self, tree):
        """Return a condition as it is carried out."""
        return Condition(tree, self.evaluator, self.compiled)

    def filtered_rows(self, test, rows):
        """Return the rows of which a condition is true."""
        condition = self.condition(test)
        return [row for row in rows if condition.holds(row)]

    def rows_between(self, name, index, bounds):
        """Return the rows of a table that bounds of its primary key or an index let through."""
        try:
            found = key_range(bounds, self.evaluator)
        except (KindFault, TextError):
            # What faults in a bound counts only if there is a row; the condition tells.
            return self.evaluator.origin.table_rows(name)
        if found is None:
            return []
        if index is None:
            return self.evaluator.origin.primary_rows(name, found[0], found[1])
        return self.evaluator.origin.index_rows(index, found[0], found[1])

    def ranked_keys(self, trees, rows):
        """Return (ranks, place) of the rows that have no NULL among some expressions' values."""
        found = []
        for place, row in enumerate(rows):
            here = self.evaluator.within(row)
            values = [here.value_of(tree) for tree in trees]
            if None not in values:
                found.append((row_rank(values), place))
        return found

    def ranked_sides(self, pairs, sides):
        """Return (ranks, place) of two sides' rows by what shall be equal, None if that faults or is of two kinds."""
        try:
            first = self.ranked_keys([one for one, other in pairs], sides[0])
            second = self.ranked_keys([other for one, other in pairs], sides[1])
        except KindFault:
            return None
        kinds = {tuple([kind for kind, value in ranks]): True for ranks, place in [*first, *second]}
        if len(kinds) > 1:
            return None
        return (first, second)

    def in_order(self, ranked):
        """Return (ranks, place) pairs in ascending order, sorted in runs if these are limited."""
        if self.limit > 0 and ranked != []:
            return sort_rows(ranked, (False,) * len(ranked[0][0]), self.limit)
        return sorted(ranked, key=first_of)

    def joined(self, left, test, sides, partners, many):
        """Return pairs of rows of which a condition is true, given the second rows that may go with each first one."""
        condition = self.condition(test)
        blank = (None,) * many
        found = []
        for place, row in enumerate(sides[0]):
            pairs = [(*row, *more) for more in partners[place]]
            kept = [pair for pair in pairs if condition.holds(pair)]
            if left and kept == []:
                kept = [(*row, *blank)]
            found.extend(kept)
        return found


def run_filter(runner, plan, inner):
    """Return the rows of which a condition is true."""
    return runner.filtered_rows(plan[1], inner[0])


def run_range(runner, plan, _):
    """Return the rows of a table within bounds of which a condition is true."""
    _, name, (index, bounds), test = plan
    return runner.filtered_rows(test, runner.rows_between(name, index, bounds))


def run_sort(runner, plan, inner):
    """Return rows by their orders, sorted in runs if these are limited."""
    if runner.limit < 1:
        return operation_rows(runner.evaluator, plan, inner)
    pairs = [(ranks_of(runner.evaluator, plan[1], row), row) for row in inner[0]]
    descending = tuple([order[1] for order in plan[1]])
    return [row for ranks, row in sort_rows(pairs, descending, runner.limit)]


def run_nested(runner, plan, inner):
    """Return the rows of a join that looks at each pair of rows."""
    _, left, test, _, _, many = plan
    return runner.joined(left, test, inner, [inner[1]] * len(inner[0]), many)


def run_equal(runner, plan, inner):
    """Return the rows of a join by equal sides; what faults in them counts only in pairs of rows that are looked at."""
    word, left, pairs, rest, _, _, many = plan
    sides = runner.ranked_sides(pairs, inner)
    if inner[0] == [] or sides is None:
        return run_nested(runner, ("nested", left, whole_condition(pairs, rest, inner[0]), *plan[4:]), inner)
    find = PARTNERS[word]
    found = find(runner, sides[0], sides[1])
    partners = [[inner[1][other] for other in found.get(place, [])] for place in range(len(inner[0]))]
    return runner.joined(left, rest, inner, partners, many)


def whole_condition(pairs, rest, rows):
    """Return the condition of a join by equal sides, given the rows of its first side."""
    many = 0 if rows == [] else len(rows[0])
    tests = []
    for one, other in pairs:
        moved = moved_fields(other, {place: place + many for place in fields_in(other)})
        tests.append(("cmp", "=", one, moved))
    return all_of(tests if rest is None else [*tests, rest])


def hashed_partners(_, first, second):
    """Return a table of the places of first rows to those of the second ones that equal them, looked up in a table."""
    table = {}
    for ranks, place in second:
        if ranks not in table:
            table[ranks] = []
        table[ranks].append(place)
    return {place: table.get(ranks, []) for ranks, place in first}


def merged_partners(runner, first, second):
    """Return a table of the places of first rows to those of the second ones that equal them, both sides in order."""
    others = runner.in_order(second)
    found = {}
    start = 0
    for ranks, place in runner.in_order(first):
        while start < len(others) and others[start][0] < ranks:
            start += 1
        end = start
        while end < len(others) and others[end][0] == ranks:
            end += 1
        found[place] = [other for key, other in others[start:end]]
    return found


PARTNERS = {"hash": hashed_partners, "merge": merged_partners}
WAYS = {
    "filter": run_filter, "range": run_range, "sort": run_sort, "nested": run_nested, "hash": run_equal,
    "merge": run_equal,
}
