"""Constraints: what rows have to be when a statement is done, checked over a transaction's rows."""

from tablestack.codec import key_of, upper_key
from tablestack.errors import ConstraintFault, TableError
from tablestack.evaluate import Evaluator
from tablestack.naming import referring_tables
from tablestack.scope import table_scope
from tablestack.translate import bind_truth


def put_rows(transaction, table, gone, rows):
    """Drop (row key, row) pairs of a table and add (number, row) pairs, if all constraints hold then."""
    for _, row in rows:
        table.check_row(row)
    transaction.change(table.name, [row_key for row_key, row in gone], rows)
    try:
        added = [row for number, row in rows]
        check_conditions(transaction, table, added)
        check_references(transaction, table, added)
        check_referring(transaction, table, [row for row_key, row in gone])
    except TableError:
        transaction.take_back()
        raise


def catalog_of(transaction):
    """Return the catalog that a transaction sees."""
    return transaction.engine.store.catalog


def check_conditions(transaction, table, rows):
    """Raise ConstraintFault if a check of a table is false of a row."""
    for check in table.checks:
        test = bind_truth(catalog_of(transaction), table_scope(table, table.name), check)
        for row in rows:
            if Evaluator(transaction, (row,)).value_of(test) is False:
                raise ConstraintFault(f"a check of {table.name} is false")


def values_at(row, places):
    """Return a row's values at some places."""
    return tuple([row[place] for place in places])


def known_values(rows, places):
    """Return the values that rows have at some places, each once, without those with NULL."""
    found = {values_at(row, places): True for row in rows}
    return [values for values in found if None not in values]


def check_references(transaction, table, rows):
    """Raise ConstraintFault if a row of a table refers to a row that is not there."""
    for places, name, there in table.references:
        other = catalog_of(transaction).table_named(name)
        for values in known_values(rows, places):
            if rows_with(transaction, other, there, [values]) == []:
                raise ConstraintFault(f"{table.name} refers to a row that {name} does not have")


def check_referring(transaction, table, gone):
    """Raise ConstraintFault if a row refers to one that a table has no more."""
    if gone == []:
        return
    for other in referring_tables(catalog_of(transaction), table.name):
        for places, name, there in other.references:
            if name == table.name:
                lost = known_values(gone, there)
                lost = [values for values in lost if rows_with(transaction, table, there, [values]) == []]
                if lost != [] and rows_with(transaction, other, places, lost) != []:
                    raise ConstraintFault(f"{other.name} refers to a row of {table.name}")


def rows_with(transaction, table, places, wanted):
    """Return the rows of a table that have one of some values at some places, by a key of these columns if any."""
    for name, columns in key_columns(transaction, table):
        first = columns[:len(places)]
        if sorted(first) == sorted(places):
            keys = [key_of([values[places.index(place)] for place in first]) for values in wanted]
            return rows_of_keys(transaction, table, name, keys)
    known = {values: True for values in wanted}
    return [row for row in transaction.table_rows(table.name) if values_at(row, places) in known]


def key_columns(transaction, table):
    """Return (index name, None for the primary key, places of its columns) of a table's keys."""
    indexes = catalog_of(transaction).indexes_of(table)
    return [(None, table.primary), *[(index.name, index.places) for index in indexes]]


def rows_of_keys(transaction, table, name, keys):
    """Return the rows of a table whose primary keys, or keys in an index, begin with some bytes."""
    found = []
    for key in keys:
        if name is None:
            found.extend(transaction.primary_rows(table.name, key, upper_key(key)))
        else:
            found.extend(transaction.index_rows(name, key, upper_key(key)))
    return found
