"""Defining: statements that change the catalog, as functions that carry them out on a store."""

from tablestack.errors import ConstraintFault, NameFault
from tablestack.naming import referring_tables, view_names
from tablestack.printer import query_text
from tablestack.schema import CONSTRAINT_SIGN, Index, referring_table
from tablestack.scope import table_scope
from tablestack.translate import bind_truth, translate


def table_creation(catalog, statement):
    """Return the function that creates a table; raise the faults of its columns and constraints."""
    table, indexes = referring_table(catalog, statement)
    for check in table.checks:
        bind_truth(catalog, table_scope(table, table.name), check)

    def carry_out(store):
        """Create the table."""
        store.create_table(table, indexes)

    return carry_out


def index_creation(catalog, statement):
    """Return the function that creates an index."""
    _, unique, name, owner, columns = statement
    table = catalog.table_named(owner)
    index = Index(name, owner, unique, table.places_of(columns))

    def carry_out(store):
        """Create the index."""
        store.create_index(index)

    return carry_out


def view_creation(catalog, statement):
    """Return the function that creates a view, which is held as a text; raise the faults of its query."""
    _, name, query = statement
    translate(catalog, query)

    def carry_out(store):
        """Create the view."""
        store.create_view(name, query_text(query))

    return carry_out


def table_drop(catalog, statement):
    """Return the function that drops a table; raise ConstraintFault if a table refers to it, or a view reads it."""
    name = catalog.table_named(statement[1]).name
    if any(table.name != name for table in referring_tables(catalog, name)):
        raise ConstraintFault(f"a table refers to {name}")
    check_unread(catalog, name)

    def carry_out(store):
        """Drop the table."""
        store.drop_table(name)

    return carry_out


def index_drop(catalog, statement):
    """Return the function that drops an index; raise ConstraintFault for one that belongs to a constraint."""
    name = statement[1]
    if CONSTRAINT_SIGN in name:
        raise ConstraintFault(f"the index {name} belongs to a constraint")
    if name not in catalog.indexes:
        raise NameFault(f"there is no index {name}")

    def carry_out(store):
        """Drop the index."""
        store.drop_index(name)

    return carry_out


def view_drop(catalog, statement):
    """Return the function that drops a view; raise ConstraintFault if another view reads it."""
    name = statement[1]
    if name not in catalog.views:
        raise NameFault(f"there is no view {name}")
    check_unread(catalog, name)

    def carry_out(store):
        """Drop the view."""
        store.drop_view(name)

    return carry_out


def check_unread(catalog, name):
    """Raise ConstraintFault if a view reads a table or a view."""
    if any(name in view_names(catalog, view) for view in catalog.views):
        raise ConstraintFault(f"a view reads {name}")


DEFINITIONS = {
    "create_table": table_creation, "create_index": index_creation, "create_view": view_creation,
    "drop_table": table_drop, "drop_index": index_drop, "drop_view": view_drop,
}
