"""Translation: queries to plans."""

from tablestack.binder import Binder, fitting
from tablestack.errors import KindFault, NameFault, PlanFault
from tablestack.grouping import GroupBinder, is_grouped
from tablestack.naming import view_query
from tablestack.plans import check_plan, width
from tablestack.scope import Scope, joined_scope, table_scope

# Each view adds at least two operations to a plan, so that more of them in one another are too deep in any case.
MOST_VIEWS = 100


def output_field(columns, tree):
    """Return the field of an output column that an order names by its name or its number from 1 on, or None."""
    if tree[0] == "int":
        if not 1 <= tree[1] <= len(columns):
            raise NameFault(f"there is no column {tree[1]}")
        return ("field", 0, tree[1] - 1)
    if tree[0] != "col" or tree[1] is not None:
        return None
    places = [place for place, column in enumerate(columns) if column[0] == tree[2]]
    if len(places) > 1:
        raise NameFault(f"{tree[2]} is ambiguous")
    if places == []:
        return None
    return ("field", 0, places[0])


def translate(catalog, query):
    """Return (plan, ((name, kind), ..)) of a query; raise NameFault, KindFault or PlanFault."""
    plan, columns = Translator(catalog).query_plan(query, ())
    return (check_plan(plan), columns)


def bind_value(catalog, scope, tree):
    """Return (bound expression, kind) of an expression that gives a value in a scope; raise NameFault or KindFault."""
    return Binder(Translator(catalog), (scope,)).bound_value(tree)


def bind_truth(catalog, scope, tree):
    """Return the bound expression of a condition in a scope; raise NameFault or KindFault."""
    return Binder(Translator(catalog), (scope,)).bound_truth(tree)


class Translator:
    """Turns queries to plans, given a catalog; counts the views that are in one another."""

    def __init__(self, catalog):
        self.catalog = catalog
        self.views = 0

    def query_plan(self, query, scopes):
        """Return (plan, ((name, kind), ..)) of a query that stands within some scopes, the nearest first."""
        _, body, orders, limit, offset = query
        if body[0] == "select":
            plan, columns, keys = self.select_plan(body, orders, scopes)
        else:
            plan, columns = self.body_plan(body, scopes)
            keys = [(named_output(columns, tree), descending) for tree, descending in orders]
        many = width(plan)
        plan = ("sort", full_order(keys, len(columns)), plan)
        if limit is not None or offset > 0:
            plan = ("limit", limit, offset, plan)
        if many > len(columns):
            plan = ("project", tuple([("field", 0, place) for place in range(len(columns))]), plan)
        return (plan, columns)

    def body_plan(self, body, scopes):
        """Return (plan, ((name, kind), ..)) of a select or a combination without orders."""
        if body[0] == "select":
            plan, columns, _ = self.select_plan(body, (), scopes)
            return (plan, columns)
        word, whole, one, other = body
        first, here = self.body_plan(one, scopes)
        second, there = self.body_plan(other, scopes)
        if len(here) != len(there):
            raise KindFault(f"{word} has sides of other numbers of columns")
        columns = [(name, fitting((kind, there[place][1]))) for place, (name, kind) in enumerate(here)]
        return ((word, whole, first, second), tuple(columns))

    def select_plan(self, body, orders, scopes):
        """Return (plan, ((name, kind), ..), orders on fields); the plan has columns of other orders, too."""
        _, distinct, items, source, where, groups, having = body
        plan, scope = self.source_plan(source, scopes)
        inner = Binder(self, (scope, *scopes))
        if where is not None:
            plan = ("filter", inner.bound_truth(where), plan)
        grouped = is_grouped(body, orders)
        binder = GroupBinder(inner, groups) if grouped else inner
        outputs = output_columns(binder, scope, items)
        columns = tuple([(name, kind) for tree, kind, name in outputs])
        test = None if having is None else binder.bound_truth(having)
        keys, extra = order_keys(binder, columns, orders, distinct)
        if grouped:
            plan = ("group", tuple([tree for tree, kind in binder.group_keys]), tuple(binder.calls), plan)
        if test is not None:
            plan = ("filter", test, plan)
        plan = ("project", tuple([tree for tree, kind, name in outputs] + extra), plan)
        if distinct:
            plan = ("distinct", plan)
        return (plan, columns, keys)

    def source_plan(self, source, scopes):
        """Return (plan, scope) of what a select within some scopes reads."""
        if source is None:
            return (("unit",), Scope(()))
        if source[0] == "table":
            return self.table_plan(source[1], source[2])
        if source[0] == "sub":
            plan, columns = self.query_plan(source[1], scopes)
            return (plan, output_scope(columns, source[2]))
        _, left, one, other, test = source
        first, here = self.source_plan(one, scopes)
        second, there = self.source_plan(other, scopes)
        scope = joined_scope(here, there)
        condition = None if test is None else Binder(self, (scope, *scopes)).bound_truth(test)
        return (("join", left, condition, first, second), scope)

    def table_plan(self, name, alias):
        """Return (plan, scope) of a table or a view."""
        if name in self.catalog.views:
            plan, columns = self.view_plan(self.catalog.views[name])
            return (plan, output_scope(columns, alias))
        table = self.catalog.table_named(name)
        return (("scan", name, len(table.columns)), table_scope(table, alias))

    def view_plan(self, view):
        """Return (plan, ((name, kind), ..)) of a view, which sees no columns of the query that reads it."""
        if self.views == MOST_VIEWS:
            raise PlanFault("views are nested too deep")
        query = view_query(view)
        self.views += 1
        try:
            return self.query_plan(query, ())
        finally:
            self.views -= 1


def output_scope(columns, alias):
    """Return the scope of a query's columns under an alias."""
    return Scope([(alias, name, kind) for name, kind in columns])


def output_columns(binder, scope, items):
    """Return (bound expression, kind, name) of a select's output columns."""
    found = []
    for tree, name in items:
        if tree == "star":
            found.extend(star_columns(binder, scope, name))
        else:
            bound, kind = binder.bound_value(tree)
            found.append((bound, kind, output_name(tree, name, len(found) + 1)))
    return found


def star_columns(binder, scope, alias):
    """Return (bound expression, kind, name) of the columns that a star tells; raise NameFault if there are none."""
    found = []
    for place in scope.places_of_alias(alias):
        bound, kind = binder.star_field(place)
        found.append((bound, kind, scope.columns[place][1]))
    if found == []:
        raise NameFault("a star has no columns")
    return found


def output_name(tree, name, number):
    """Return the name of an output column: the one that it is given, its column's, or one by its number."""
    if name is not None:
        return name
    if tree[0] == "col":
        return tree[2]
    return f"column{number}"


def order_keys(binder, columns, orders, distinct):
    """Return (orders on fields, bound expressions of further columns) of a select's orders."""
    keys = []
    extra = []
    for tree, descending in orders:
        field = named_output(columns, tree) if distinct else output_field(columns, tree)
        if field is None:
            bound, _ = binder.bound_value(tree)
            field = ("field", 0, len(columns) + len(extra))
            extra.append(bound)
        keys.append((field, descending))
    return (keys, extra)


def named_output(columns, tree):
    """Return the field of an output column that an order names; raise NameFault for another order."""
    field = output_field(columns, tree)
    if field is None:
        raise NameFault("only columns order distinct rows and combinations")
    return field


def full_order(keys, many):
    """Return orders on fields, and behind them the columns in order, by which rows that tie are told apart."""
    named = [field for field, descending in keys]
    places = [("field", 0, place) for place in range(many)]
    return (*keys, *[(field, False) for field in places if field not in named])
