"""Changing: the rows that insertions, updates and deletions put and drop."""

from tablestack.access import key_range
from tablestack.codec import values_from_key
from tablestack.constraints import put_rows
from tablestack.errors import KindFault, TextError
from tablestack.evaluate import Evaluator
from tablestack.physical import Condition
from tablestack.plans import check_plan
from tablestack.scope import Scope, table_scope
from tablestack.translate import bind_truth, bind_value


def insert_rows(session, statement, transaction):
    """Carry out an insertion; return how many rows it put."""
    _, name, columns, source = statement
    catalog = session.engine.store.catalog
    table = catalog.table_named(name)
    places = table.places_of(table.column_names() if columns is None else columns)
    if source[0] == "query":
        found = session.query_rows(source, transaction)
    else:
        found = [row_of_values(catalog, trees, transaction) for trees in source[1]]
    rows = []
    for values in found:
        row = whole_row(table, places, values)
        rows.append((0 if table.primary != () else session.engine.next_number(name), row))
    put_rows(transaction, table, [], rows)
    return len(rows)


def row_of_values(catalog, trees, transaction):
    """Return the values of a row of expressions."""
    bound = [bind_value(catalog, Scope(()), tree)[0] for tree in trees]
    check_plan(("project", tuple(bound), ("unit",)))
    evaluator = Evaluator(transaction, ((),))
    return [evaluator.value_of(tree) for tree in bound]


def whole_row(table, places, values):
    """Return a table's row that has values at some places, and defaults at the others; raise KindFault for too few."""
    if len(values) != len(places):
        raise KindFault(f"a row for {table.name} has another number of values")
    row = [column.value for column in table.columns]
    for place, value in zip(places, values):
        row[place] = value
    return tuple(row)


def update_rows(session, statement, transaction):
    """Carry out an update; return how many rows it put."""
    _, name, changes, where = statement
    catalog = session.engine.store.catalog
    table = catalog.table_named(name)
    places = table.places_of([column for column, tree in changes])
    scope = table_scope(table, name)
    bound = [bind_value(catalog, scope, tree)[0] for column, tree in changes]
    check_plan(("project", tuple(bound), ("unit",)))
    gone = matching_pairs(session, table, where, transaction)
    evaluator = Evaluator(transaction)
    rows = []
    for row_key, row in gone:
        here = evaluator.within(row)
        changed = list(row)
        for place, tree in zip(places, bound):
            changed[place] = here.value_of(tree)
        number = 0 if table.primary != () else values_from_key(row_key)[0]
        rows.append((number, tuple(changed)))
    put_rows(transaction, table, gone, rows)
    return len(rows)


def delete_rows(session, statement, transaction):
    """Carry out a deletion; return how many rows it dropped."""
    _, name, where = statement
    table = session.engine.store.catalog.table_named(name)
    gone = matching_pairs(session, table, where, transaction)
    put_rows(transaction, table, gone, [])
    return len(gone)


def matching_pairs(session, table, where, transaction):
    """Return (row key, row) of a table's rows of which a condition is true, all rows for None."""
    plan = ("scan", table.name, len(table.columns))
    if where is not None:
        test = bind_truth(session.engine.store.catalog, table_scope(table, table.name), where)
        plan = check_plan(("filter", test, plan))
    return pairs_of(session.physical_plan(plan, transaction), transaction, session.options.compiled)


def pairs_of(plan, transaction, compiled):
    """Return (row key, row) of the rows of a physical plan: a scan, a filter of one, or a range."""
    if plan[0] == "scan":
        return transaction.keyed_rows(plan[1])
    if plan[0] == "filter":
        pairs, test = pairs_of(plan[2], transaction, compiled), plan[1]
    else:
        pairs, test = pairs_in_range(plan, transaction), plan[3]
    condition = Condition(test, Evaluator(transaction), compiled)
    return [(row_key, row) for row_key, row in pairs if condition.holds(row)]


def pairs_in_range(plan, transaction):
    """Return (row key, row) of the rows that the bounds of a range let through."""
    _, name, (index, bounds), _ = plan
    try:
        found = key_range(bounds, Evaluator(transaction))
    except (KindFault, TextError):
        # What faults in a bound counts only if there is a row; the condition tells.
        return transaction.keyed_rows(name)
    if found is None:
        return []
    if index is None:
        return transaction.primary_pairs(name, found[0], found[1])
    return transaction.indexed_pairs(index, found[0], found[1])
