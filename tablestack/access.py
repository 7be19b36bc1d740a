"""Access: which keys a table's condition asks for, and how many rows a plan is expected to have."""

from tablestack.codec import key_of_value, upper_key
from tablestack.plans import fields_in, inputs
from tablestack.rewrite import bound_conjuncts

# What a comparison asks of its second side, told with that one first.
TURNED = {"=": "=", "<": ">", "<=": ">=", ">": "<", ">=": "<="}
LOW_SIGNS = (">", ">=")
HIGH_SIGNS = ("<", "<=")
EQUAL_PART = 10
OTHER_PART = 3


class Bounds:
    """What conditions ask of a row of columns: values that the first ones equal, and bounds of the next one."""

    def __init__(self, equals, low, high):
        self.equals = tuple(equals)
        self.low = low
        self.high = high

    def is_open(self):
        """Return True if nothing is asked."""
        return self.equals == () and self.low is None and self.high is None

    def shown(self):
        """Return (expressions, low, high), a bound as (sign, expression) or None."""
        return (self.equals, self.low, self.high)


def sided(tree):
    """Return (place, sign, expression) of a comparison of a field with an expression without fields, or None.

    A "<>" bounds nothing.
    """
    if tree[0] != "cmp" or tree[1] not in TURNED:
        return None
    _, sign, one, other = tree
    if is_own_field(one) and fields_in(other) == ():
        return (one[2], sign, other)
    if is_own_field(other) and fields_in(one) == ():
        return (other[2], TURNED[sign], one)
    return None


def is_own_field(tree):
    """Return True if an expression is a field of its own row."""
    return tree[0] == "field" and tree[1] == 0


def asked_of(test, places):
    """Return the bounds that a condition asks of columns at some places, in order."""
    sides = [sided(tree) for tree in bound_conjuncts(test)]
    known = [side for side in sides if side is not None]
    equals = []
    for place in places:
        here = [(sign, tree) for where, sign, tree in known if where == place]
        same = first_bound(here, ("=",))
        if same is None:
            return Bounds(equals, first_bound(here, LOW_SIGNS), first_bound(here, HIGH_SIGNS))
        equals.append(same[1])
    return Bounds(equals, None, None)


def first_bound(bounds, signs):
    """Return the first one of (sign, expression) pairs with one of some signs, None if there is none."""
    for sign, tree in bounds:
        if sign in signs:
            return (sign, tree)
    return None


def key_range(bounds, evaluator):
    """Return (low, high) keys between which all rows lie that bounds ask for, None if no row can be.

    The evaluator's rows are those of the queries outside; bounds stand in an expression on a row, of which they read
    nothing.
    """
    here = evaluator.within(())
    prefix = ()
    for tree in bounds.equals:
        value = here.value_of(tree)
        if value is None:
            return None
        prefix = (*prefix, *key_of_value(value))
    low, high = prefix, upper_key(prefix)
    for sign, tree in [bound for bound in (bounds.low, bounds.high) if bound is not None]:
        value = here.value_of(tree)
        if value is None:
            return None
        key = (*prefix, *key_of_value(value))
        if sign in (">", "<="):
            key = upper_key(key)
        if sign in LOW_SIGNS:
            low = key
        else:
            high = key
    if high is not None and low >= high:
        return None
    return (low, high)


def selectivity(bounds, many):
    """Return the number of rows expected of so many when bounds hold."""
    for _ in bounds.equals:
        many = many // EQUAL_PART + 1
    for bound in (bounds.low, bounds.high):
        if bound is not None:
            many = many // OTHER_PART + 1
    return many


def part_left(test, many):
    """Return the number of rows expected of so many when a condition holds, 1 at least."""
    if test[0] == "cmp" and test[1] == "=":
        return many // EQUAL_PART + 1
    return many // OTHER_PART + 1


def expected_rows(plan, counts):
    """Return the number of rows expected of a plan, given a table of tables to their numbers of rows."""
    if plan[0] == "unit":
        return 1
    if plan[0] == "scan":
        return counts.get(plan[1], 0)
    inner = [expected_rows(one, counts) for one in inputs(plan)]
    if plan[0] == "filter":
        many = inner[0]
        for test in bound_conjuncts(plan[1]):
            many = min(many, part_left(test, many))
        return many
    if plan[0] == "join":
        pairs = expected_pairs(plan[2], inner[0] * inner[1])
        # A left join keeps each row of its first side.
        return max(pairs, inner[0]) if plan[1] else pairs
    if plan[0] == "group":
        return 1 if plan[1] == () else inner[0]
    if plan[0] == "union":
        return inner[0] + inner[1]
    if plan[0] == "intersect":
        return min(inner[0], inner[1])
    if plan[0] == "limit":
        left = max(0, inner[0] - max(0, plan[2]))
        return left if plan[1] is None else min(left, max(0, plan[1]))
    return inner[0]


def expected_pairs(test, many):
    """Return the number of rows expected of so many pairs of a join with a condition; a condition leaves 1 at least."""
    if test is None:
        return many
    for one in bound_conjuncts(test):
        many = part_left(one, many)
    return many
