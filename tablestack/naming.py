"""Naming: the tables that a statement reads, since it names them, or a view or a constraint does."""

from tablestack.parser import parse

CHANGES = ("insert", "update", "delete")
# Where statements name a table or a view that is no source of a query.
NAME_PLACES = {
    "insert": 1, "update": 1, "delete": 1, "analyze": 1, "create_table": 1, "create_index": 3, "create_view": 1,
    "drop_table": 1, "drop_view": 1,
}


def source_names(tree):
    """Return the names of the tables and views that a tree's queries read, each once."""
    found = {}
    waiting = [tree]
    while waiting != []:
        part = waiting.pop()
        if len(part) == 3 and part[0] == "table":
            found[part[1]] = True
        waiting.extend([one for one in part if isinstance(one, tuple)])
    return list(found)


def view_query(view):
    """Return the query of a view, which a catalog holds as a tuple or as a text."""
    return parse(view) if isinstance(view, str) else view


def view_names(catalog, name):
    """Return the names of the tables and views that a view's query reads."""
    return source_names(view_query(catalog.views[name]))


def referring_tables(catalog, name):
    """Return the tables that refer to one, in ascending order of their names."""
    tables = [catalog.tables[one] for one in sorted(catalog.tables)]
    return [table for table in tables if any(reference[1] == name for reference in table.references)]


def constraint_names(catalog, name):
    """Return the names of the tables that are read to check a table's references when it changes."""
    if name not in catalog.tables:
        return []
    found = [reference[1] for reference in catalog.tables[name].references]
    return [*found, *[other.name for other in referring_tables(catalog, name)]]


def statement_names(catalog, statement):
    """Return the names that a statement names, and those that constraints name where it changes rows."""
    found = source_names(statement)
    if statement[0] in NAME_PLACES:
        found.append(statement[NAME_PLACES[statement[0]]])
    if statement[0] in CHANGES:
        found.extend(constraint_names(catalog, statement[1]))
    if statement[0] == "create_table":
        found.extend([rule[2] for rule in statement[3] if rule[0] == "foreign"])
    return found


def names_behind(catalog, names):
    """Return some names, and those that the views among them read, each once."""
    found = {}
    waiting = list(names)
    while waiting != []:
        name = waiting.pop()
        if name not in found:
            found[name] = True
            if name in catalog.views:
                waiting.extend(view_names(catalog, name))
    return list(found)


def tables_read(catalog, statement):
    """Return the tables that a statement reads, views' tables included, each once, in ascending order."""
    names = names_behind(catalog, statement_names(catalog, statement))
    return sorted([name for name in names if name in catalog.tables])


def names_checked(catalog, table):
    """Return the names of the tables and views that a table's checks read, what the views read included, each once."""
    return names_behind(catalog, source_names(table.checks))
