"""Scopes: the columns that an expression may name, those of queries outside included."""

from tablestack.errors import NameFault


class Scope:
    """Columns as (table alias, name, kind) in the order of a row's places."""

    def __init__(self, columns):
        self.columns = tuple(columns)

    def places_named(self, alias, name):
        """Return the places of the columns of a name, of one alias if it is told."""
        return [place for place in self.places_of_alias(alias) if self.columns[place][1] == name]

    def places_of_alias(self, alias):
        """Return the places of the columns of an alias, all columns for None."""
        return [place for place, column in enumerate(self.columns) if alias is None or column[0] == alias]


def find_column(scopes, alias, name):
    """Return (up, place, kind) of a column, looked for from the inner scope outwards; raise NameFault."""
    for up, scope in enumerate(scopes):
        places = scope.places_named(alias, name)
        if len(places) > 1:
            raise NameFault(f"{name} is ambiguous")
        if len(places) == 1:
            return (up, places[0], scope.columns[places[0]][2])
    raise NameFault(f"there is no column {name}")


def table_scope(table, alias):
    """Return the scope of a table's columns under an alias."""
    return Scope([(alias, column.name, column.kind) for column in table.columns])


def joined_scope(one, other):
    """Return the scope of two scopes side by side; raise NameFault if they share an alias."""
    aliases = [column[0] for column in one.columns]
    if any(column[0] in aliases for column in other.columns):
        raise NameFault("two tables have one name")
    return Scope(one.columns + other.columns)
