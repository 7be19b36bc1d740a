"""Binder: expressions with columns by name to expressions with fields by place, and their kinds.

Kinds are "null", "int" and "text" for values, and "truth" for conditions.
"""

from tablestack.errors import KindFault, NameFault
from tablestack.scope import find_column
from tablestack.values import AGGREGATES


def fitting(kinds):
    """Return the kind that values of some kinds have together; raise KindFault if they do not fit."""
    found = "null"
    for kind in kinds:
        if found == "null":
            found = kind
        elif kind not in ("null", found):
            raise KindFault(f"{found} and {kind} do not fit")
    return found


def expect(kind, wanted):
    """Raise KindFault if a kind is neither the wanted one nor that of NULL."""
    if kind not in ("null", wanted):
        raise KindFault(f"{kind} stands where {wanted} is wanted")


def aggregate_kind(name, kind):
    """Return the kind of an aggregate call on values of a kind; raise KindFault for a sum of texts."""
    if name not in AGGREGATES:
        raise NameFault(f"there is no aggregate {name}")
    if name == "count":
        return "int"
    if name == "sum":
        expect(kind, "int")
        return "int"
    return kind


def value_kind(kind):
    """Return the kind of a value; raise KindFault for a condition's."""
    if kind == "truth":
        raise KindFault("a condition stands where a value is wanted")
    return kind


class Binder:
    """Binds expressions that stand in a select, given its own scope and those outside, the nearest first.

    A translator turns the queries within them to plans.
    """

    def __init__(self, translator, scopes):
        self.translator = translator
        self.scopes = scopes

    def bound(self, tree):
        """Return (bound expression, kind) of an expression."""
        found = self.placed(tree)
        if found is not None:
            return found
        form = FORMS[tree[0]]
        return form(self, tree)

    def placed(self, tree):
        """Return (bound expression, kind) of a column, None for what is put together of others."""
        if tree[0] == "agg":
            raise NameFault("no aggregate may stand here")
        if tree[0] != "col":
            return None
        up, place, kind = find_column(self.scopes, tree[1], tree[2])
        return (("field", up, place), kind)

    def star_field(self, place):
        """Return (bound expression, kind) of a column that a star tells."""
        return (("field", 0, place), self.scopes[0].columns[place][2])

    def query_scopes(self):
        """Return the scopes that a query within an expression sees."""
        return self.scopes

    def bound_value(self, tree):
        """Return (bound expression, kind) of an expression that gives a value."""
        found, kind = self.bound(tree)
        return (found, value_kind(kind))

    def bound_truth(self, tree):
        """Return the bound expression of a condition."""
        found, kind = self.bound(tree)
        expect(kind, "truth")
        return found


def bound_literal(_, tree):
    """Bind NULL, an integer or a text."""
    return (tree, tree[0])


def bound_operation(binder, tree):
    """Bind an arithmetic operation or a joining."""
    wanted = "text" if tree[1] == "||" else "int"
    one, first = binder.bound(tree[2])
    other, second = binder.bound(tree[3])
    expect(first, wanted)
    expect(second, wanted)
    return (("op", tree[1], one, other), wanted)


def bound_minus(binder, tree):
    """Bind a minus."""
    one, kind = binder.bound(tree[1])
    expect(kind, "int")
    return (("neg", one), "int")


def bound_comparison(binder, tree):
    """Bind a comparison of two values."""
    one, first = binder.bound(tree[2])
    other, second = binder.bound(tree[3])
    fitting((value_kind(first), value_kind(second)))
    return (("cmp", tree[1], one, other), "truth")


def bound_logic(binder, tree):
    """Bind an "and" or an "or"."""
    one, first = binder.bound(tree[1])
    other, second = binder.bound(tree[2])
    expect(first, "truth")
    expect(second, "truth")
    return ((tree[0], one, other), "truth")


def bound_not(binder, tree):
    """Bind a "not"."""
    one, kind = binder.bound(tree[1])
    expect(kind, "truth")
    return (("not", one), "truth")


def bound_isnull(binder, tree):
    """Bind a comparison with NULL."""
    one, kind = binder.bound(tree[1])
    value_kind(kind)
    return (("isnull", one, tree[2]), "truth")


def bound_in(binder, tree):
    """Bind a comparison with a list."""
    one, kind = binder.bound(tree[1])
    kinds = [value_kind(kind)]
    members = []
    for member in tree[2]:
        found, kind = binder.bound(member)
        kinds.append(value_kind(kind))
        members.append(found)
    fitting(kinds)
    return (("in", one, tuple(members), tree[3]), "truth")


def bound_inquery(binder, tree):
    """Bind a comparison with the rows of a query."""
    one, kind = binder.bound(tree[1])
    plan, column_kind = column_plan(binder, tree[2])
    fitting((value_kind(kind), column_kind))
    return (("inquery", one, plan, tree[3]), "truth")


def bound_between(binder, tree):
    """Bind a comparison with two bounds."""
    one, first = binder.bound(tree[1])
    low, second = binder.bound(tree[2])
    high, third = binder.bound(tree[3])
    fitting((value_kind(first), value_kind(second), value_kind(third)))
    return (("between", one, low, high, tree[4]), "truth")


def bound_like(binder, tree):
    """Bind a comparison with a pattern."""
    one, first = binder.bound(tree[1])
    other, second = binder.bound(tree[2])
    expect(first, "text")
    expect(second, "text")
    return (("like", one, other, tree[3]), "truth")


def bound_case(binder, tree):
    """Bind a choice of values."""
    arms = []
    kinds = []
    for test, value in tree[1]:
        condition, kind = binder.bound(test)
        expect(kind, "truth")
        found, kind = binder.bound(value)
        kinds.append(value_kind(kind))
        arms.append((condition, found))
    other, kind = binder.bound(tree[2])
    kinds.append(value_kind(kind))
    return (("case", tuple(arms), other), fitting(kinds))


def bound_exists(binder, tree):
    """Bind a question for a query's rows."""
    plan, _ = binder.translator.query_plan(tree[1], binder.query_scopes())
    return (("exists", plan), "truth")


def bound_scalar(binder, tree):
    """Bind a query that gives a value."""
    plan, kind = column_plan(binder, tree[1])
    return (("scalar", plan), kind)


def column_plan(binder, query):
    """Return (plan, kind) of a query that stands where a value does; raise KindFault for several columns."""
    plan, columns = binder.translator.query_plan(query, binder.query_scopes())
    if len(columns) != 1:
        raise KindFault("a query of several columns stands where a value is wanted")
    return (plan, columns[0][1])


FORMS = {
    "null": bound_literal, "int": bound_literal, "text": bound_literal, "op": bound_operation, "neg": bound_minus,
    "cmp": bound_comparison, "and": bound_logic, "or": bound_logic, "not": bound_not, "isnull": bound_isnull,
    "in": bound_in, "inquery": bound_inquery, "between": bound_between, "like": bound_like, "case": bound_case,
    "exists": bound_exists, "scalar": bound_scalar,
}
