"""Evaluation: bound expressions to values and truths, and plans to rows, the plain way."""

from tablestack.errors import PlanFault
from tablestack.plans import inputs, reads_outside, width
from tablestack.values import arithmetic, both, compare, concat, either, least_of, like, negated, rank, sum_of


class Evaluator:
    """A source of the tables' rows, and the rows of the queries outside, the nearest first.

    Queries that read no row outside have the same rows wherever they stand; these are kept by the plan's text, None for
    a query that does read one.
    """

    def __init__(self, source, rows=()):
        self.origin = source
        self.rows = tuple(rows)
        self.kept_rows = {}

    def within(self, row):
        """Return an evaluator of expressions on a row."""
        inner = Evaluator(self.origin, (row, *self.rows))
        inner.kept_rows = self.kept_rows
        return inner

    def value_of(self, tree):
        """Return the value of a bound expression, a truth for a condition."""
        if tree[0] not in VALUES:
            raise PlanFault(f"there is no bound expression {tree[0]}")
        form = VALUES[tree[0]]
        return form(self, tree)

    def plan_rows(self, plan):
        """Return the rows of a plan, in the order that the plain way gives."""
        if self.rows == ():
            # The tables' rows may be others than when this evaluator was asked before.
            self.kept_rows.clear()
        inner = [self.plan_rows(one) for one in inputs(plan)]
        return operation_rows(self, plan, inner)

    def query_rows(self, plan):
        """Return the rows of the plan of a query within an expression."""
        text = repr(plan)
        if text not in self.kept_rows:
            self.kept_rows[text] = None if reads_outside(plan) else self.plan_rows(plan)
        rows = self.kept_rows[text]
        return self.plan_rows(plan) if rows is None else rows


def null_value(_, tree):
    """Return NULL."""
    return None


def known_value(_, tree):
    """Return the value of a literal, or a known truth."""
    return tree[1]


def field_value(evaluator, tree):
    """Return the value at a place of a row; raise PlanFault if there is none."""
    _, up, place = tree
    if not 0 <= up < len(evaluator.rows) or not 0 <= place < len(evaluator.rows[up]):
        raise PlanFault(f"there is no place {place} in a row {up} levels outside")
    return evaluator.rows[up][place]


def operation_value(evaluator, tree):
    """Return the value of an arithmetic operation or a joining."""
    _, sign, one, other = tree
    first = evaluator.value_of(one)
    second = evaluator.value_of(other)
    if sign == "||":
        return concat(first, second)
    return arithmetic(sign, first, second)


def minus_value(evaluator, tree):
    """Return a value with the other sign."""
    return arithmetic("-", 0, evaluator.value_of(tree[1]))


def comparison_truth(evaluator, tree):
    """Return the truth of a comparison of two values."""
    return compare(tree[1], evaluator.value_of(tree[2]), evaluator.value_of(tree[3]))


def and_truth(evaluator, tree):
    """Return the truth of an "and", whose other side is not reached if the first one decides."""
    one = evaluator.value_of(tree[1])
    if one is False:
        return False
    return both(one, evaluator.value_of(tree[2]))


def or_truth(evaluator, tree):
    """Return the truth of an "or", whose other side is not reached if the first one decides."""
    one = evaluator.value_of(tree[1])
    if one is True:
        return True
    return either(one, evaluator.value_of(tree[2]))


def not_truth(evaluator, tree):
    """Return the truth of a "not"."""
    return negated(evaluator.value_of(tree[1]))


def asked(truth, is_negated):
    """Return the truth that a comparison with or without "not" asks for."""
    return negated(truth) if is_negated else truth


def isnull_truth(evaluator, tree):
    """Return the truth of a comparison with NULL."""
    return asked(evaluator.value_of(tree[1]) is None, tree[2])


def in_truth(evaluator, tree):
    """Return the truth of a comparison with a list."""
    value = evaluator.value_of(tree[1])
    return asked(member(value, [evaluator.value_of(one) for one in tree[2]]), tree[3])


def inquery_truth(evaluator, tree):
    """Return the truth of a comparison with the rows of a query."""
    value = evaluator.value_of(tree[1])
    return asked(member(value, [row[0] for row in evaluator.query_rows(tree[2])]), tree[3])


def within_bounds(value, low, high):
    """Return the truth of a comparison of a value with two bounds."""
    return both(compare(">=", value, low), compare("<=", value, high))


def between_truth(evaluator, tree):
    """Return the truth of a comparison with two bounds, with or without "not"."""
    value, low, high = [evaluator.value_of(one) for one in tree[1:4]]
    return asked(within_bounds(value, low, high), tree[4])


def like_truth(evaluator, tree):
    """Return the truth of a comparison with a pattern."""
    return asked(like(evaluator.value_of(tree[1]), evaluator.value_of(tree[2])), tree[3])


def case_value(evaluator, tree):
    """Return the value behind the first true test; the others are not reached."""
    for test, value in tree[1]:
        if evaluator.value_of(test) is True:
            return evaluator.value_of(value)
    return evaluator.value_of(tree[2])


def exists_truth(evaluator, tree):
    """Return whether a query has rows."""
    return evaluator.query_rows(tree[1]) != []


def scalar_value(evaluator, tree):
    """Return the value of a query."""
    return least_scalar(evaluator.query_rows(tree[1]))


VALUES = {
    "null": null_value, "int": known_value, "text": known_value, "truth": known_value, "field": field_value,
    "op": operation_value, "neg": minus_value, "cmp": comparison_truth, "and": and_truth, "or": or_truth,
    "not": not_truth, "isnull": isnull_truth, "in": in_truth, "inquery": inquery_truth, "between": between_truth,
    "like": like_truth, "case": case_value, "exists": exists_truth, "scalar": scalar_value,
}


def member(value, values):
    """Return whether a value equals one of some: True, None if it may because of NULL, else False."""
    found = False
    for one in values:
        truth = compare("=", value, one)
        if truth is True:
            return True
        found = either(found, truth)
    return found


def least_scalar(rows):
    """Return the least value of rows of one column, NULL first; NULL for no rows."""
    values = [row[0] for row in rows]
    if values == []:
        return None
    return min(values, key=rank)


def sorted_once(values):
    """Return values in ascending order, each once."""
    found = {value: True for value in values}
    return sorted(list(found), key=rank)


def aggregated(name, values):
    """Return the value of an aggregate call on values that are not NULL."""
    if name == "count":
        return len(values)
    if name == "sum":
        return sum_of(values)
    return least_of(values, name == "max")


def distinct_rows(rows):
    """Return rows, each once, in the order of their first places."""
    found = {row: True for row in rows}
    return list(found)


def combined(word, whole, one, other):
    """Return the rows of a union, a difference or an intersection; with "all" rows count as often as they stand."""
    if word == "union":
        rows = [*one, *other]
        return rows if whole else distinct_rows(rows)
    left = {}
    for row in other:
        left[row] = left.get(row, 0) + 1
    rows = list(one) if whole else distinct_rows(one)
    found = []
    for row in rows:
        is_there = left.get(row, 0) > 0
        if is_there and whole:
            left[row] -= 1
        if is_there == (word == "intersect"):
            found.append(row)
    return found


def limited(limit, offset, rows):
    """Return rows after an offset, at most so many; all for None.

    A negative offset leaves out no row, and at most a negative number of rows is none.
    """
    found = list(rows[max(0, offset):])
    if limit is None:
        return found
    return found[:max(0, limit)]


def operation_rows(evaluator, plan, inner):
    """Return the rows of a plan's operation on the rows of the plans that it reads."""
    form = ROWS[plan[0]]
    return form(evaluator, plan, inner)


def unit_rows(_, plan, inner):
    """Return one row without columns."""
    return [()]


def scan_rows(evaluator, plan, _):
    """Return the rows of a table."""
    return list(evaluator.origin.table_rows(plan[1]))


def filter_rows(evaluator, plan, inner):
    """Return the rows of which a condition is true."""
    return [row for row in inner[0] if evaluator.within(row).value_of(plan[1]) is True]


def project_rows(evaluator, plan, inner):
    """Return rows of expressions' values."""
    found = []
    for row in inner[0]:
        here = evaluator.within(row)
        found.append(tuple([here.value_of(tree) for tree in plan[1]]))
    return found


def join_rows(evaluator, plan, inner):
    """Return the rows of two plans side by side of which a condition is true; a left join keeps the others, too."""
    _, left, test, _, other = plan
    blank = (None,) * width(other)
    found = []
    for row in inner[0]:
        pairs = [(*row, *more) for more in inner[1]]
        if test is not None:
            pairs = [pair for pair in pairs if evaluator.within(pair).value_of(test) is True]
        if left and pairs == []:
            pairs = [(*row, *blank)]
        found.extend(pairs)
    return found


def group_rows(evaluator, plan, inner):
    """Return the keys and aggregates of groups of rows, in the order of the groups' first rows."""
    _, keys, calls, _ = plan
    groups = {}
    if keys == ():
        groups[()] = []
    for row in inner[0]:
        here = evaluator.within(row)
        key = tuple([here.value_of(tree) for tree in keys])
        if key not in groups:
            groups[key] = []
        groups[key].append(here)
    return [(*key, *[call_value(call, groups[key]) for call in calls]) for key in groups]


def call_value(call, members):
    """Return the value of an aggregate call on the evaluators of a group's rows."""
    name, tree, distinct = call
    if tree is None:
        return len(members)
    values = [here.value_of(tree) for here in members]
    known = [value for value in values if value is not None]
    if distinct:
        known = sorted_once(known)
    return aggregated(name, known)


def distinct_operation(_, plan, inner):
    """Return the rows of a plan, each once."""
    return distinct_rows(inner[0])


def combined_rows(_, plan, inner):
    """Return the rows of a combination of two plans."""
    return combined(plan[0], plan[1], inner[0], inner[1])


def ranks_of(evaluator, orders, row):
    """Return the ranks of the values by which a row is ordered."""
    here = evaluator.within(row)
    return tuple([rank(here.value_of(tree)) for tree, descending in orders])


def first_of(pair):
    """Return the first one of two."""
    return pair[0]


def ordered_rows(evaluator, plan, inner):
    """Return rows by their orders; those that tie keep their places."""
    pairs = [(ranks_of(evaluator, plan[1], row), row) for row in inner[0]]
    for place in range(len(plan[1]) - 1, -1, -1):
        keyed = [(pair[0][place], pair) for pair in pairs]
        if plan[1][place][1]:
            keyed = sorted(keyed, key=first_of, reverse=True)
        else:
            keyed = sorted(keyed, key=first_of)
        pairs = [pair for key, pair in keyed]
    return [row for ranks, row in pairs]


def limited_rows(_, plan, inner):
    """Return some of a plan's rows."""
    return limited(plan[1], plan[2], inner[0])


ROWS = {
    "unit": unit_rows, "scan": scan_rows, "filter": filter_rows, "project": project_rows, "join": join_rows,
    "group": group_rows, "distinct": distinct_operation, "union": combined_rows, "except": combined_rows,
    "intersect": combined_rows, "sort": ordered_rows, "limit": limited_rows,
}
