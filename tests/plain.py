"""Plans carried out the plain way, so that tests of translation can look at rows."""

from tablestack.plans import width
from tablestack.values import (
    arithmetic, both, compare, concat, either, least_of, like, negated, rank, row_rank, sum_of,
)


def plan_rows(tables, plan, outer=()):
    """Return the rows of a plan over tables' rows, given the rows of the queries outside, the nearest first."""
    word = plan[0]
    if word == "unit":
        return [()]
    if word == "scan":
        return list(tables[plan[1]])
    if word == "join":
        return joined_rows(tables, plan, outer)
    inner = plan_rows(tables, plan[-1], outer)
    if word == "filter":
        return [row for row in inner if value_of(tables, plan[1], (row, *outer)) is True]
    if word == "project":
        return [tuple(value_of(tables, tree, (row, *outer)) for tree in plan[1]) for row in inner]
    if word == "group":
        return grouped_rows(tables, plan, inner, outer)
    if word == "distinct":
        return list(dict.fromkeys(inner))
    if word == "sort":
        return sorted_rows(tables, plan, inner, outer)
    if word == "limit":
        return inner[plan[2]:][:plan[1]]
    return combined_rows(plan, plan_rows(tables, plan[2], outer), inner)


def joined_rows(tables, plan, outer):
    _, left, test, one, other = plan
    second = plan_rows(tables, other, outer)
    found = []
    for row in plan_rows(tables, one, outer):
        pairs = [(*row, *more) for more in second]
        pairs = [pair for pair in pairs if test is None or value_of(tables, test, (pair, *outer)) is True]
        if left and pairs == []:
            pairs = [(*row, *[None] * width(other))]
        found.extend(pairs)
    return found


def grouped_rows(tables, plan, rows, outer):
    groups = {} if plan[1] else {(): []}
    for row in rows:
        groups.setdefault(tuple(value_of(tables, key, (row, *outer)) for key in plan[1]), []).append(row)
    return [(*key, *[called(tables, call, members, outer) for call in plan[2]]) for key, members in groups.items()]


def called(tables, call, rows, outer):
    name, tree, distinct = call
    if tree is None:
        return len(rows)
    values = [value_of(tables, tree, (row, *outer)) for row in rows]
    values = [value for value in values if value is not None]
    if distinct:
        values = list(dict.fromkeys(values))
    if name == "count":
        return len(values)
    return sum_of(values) if name == "sum" else least_of(values, name == "max")


def sorted_rows(tables, plan, rows, outer):
    for tree, descending in reversed(plan[1]):
        rows = sorted(rows, key=lambda row: rank(value_of(tables, tree, (row, *outer))), reverse=descending)
    return rows


def combined_rows(plan, one, other):
    word, whole = plan[:2]
    if not whole:
        one, other = list(dict.fromkeys(one)), list(dict.fromkeys(other))
    if word == "union":
        return one + other if whole else list(dict.fromkeys(one + other))
    rest = list(other)
    kept, gone = [], []
    for row in one:
        if row in rest:
            rest.remove(row)
            gone.append(row)
        else:
            kept.append(row)
    return kept if word == "except" else gone


def value_of(tables, tree, rows):
    """Return the value or truth of a bound expression on rows, the nearest first."""
    word = tree[0]
    value = lambda inner: value_of(tables, inner, rows)
    if word == "field":
        return rows[tree[1]][tree[2]]
    if word in ("int", "text", "truth"):
        return tree[1]
    if word == "null":
        return None
    if word == "op":
        if tree[1] == "||":
            return concat(value(tree[2]), value(tree[3]))
        return arithmetic(tree[1], value(tree[2]), value(tree[3]))
    if word == "neg":
        return arithmetic("-", 0, value(tree[1]))
    if word == "cmp":
        return compare(tree[1], value(tree[2]), value(tree[3]))
    if word in ("and", "or"):
        return (both if word == "and" else either)(value(tree[1]), value(tree[2]))
    if word == "not":
        return negated(value(tree[1]))
    if word == "case":
        chosen = [inner for test, inner in tree[1] if value(test) is True]
        return value(chosen[0] if chosen else tree[2])
    if word == "exists":
        return plan_rows(tables, tree[1], rows) != []
    if word == "scalar":
        found = [row[0] for row in plan_rows(tables, tree[1], rows)]
        return min(found, key=rank) if found else None
    found = asked(tables, tree, value, rows)
    return negated(found) if tree[-1] else found


def asked(tables, tree, value, rows):
    word = tree[0]
    if word == "isnull":
        return value(tree[1]) is None
    if word == "like":
        return like(value(tree[1]), value(tree[2]))
    if word == "between":
        return both(compare(">=", value(tree[1]), value(tree[2])), compare("<=", value(tree[1]), value(tree[3])))
    if word == "in":
        members = [value(member) for member in tree[2]]
    else:
        members = [row[0] for row in plan_rows(tables, tree[2], rows)]
    found = False
    for member in members:
        found = either(found, compare("=", value(tree[1]), member))
    return found


def in_order(rows):
    """Return rows ordered by their values."""
    return sorted(rows, key=row_rank)
