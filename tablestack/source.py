"""Sources: tables' rows as plans read them, all of them or those between keys, held in memory.

A transaction of a database is such a source, too; one of these carries out plans without a database.
"""

from tablestack.codec import key_of
from tablestack.errors import NameFault
from tablestack.evaluate import first_of


class Source:
    """A catalog, and a table of its tables' names to their rows."""

    def __init__(self, catalog, held):
        self.catalog = catalog
        self.held = {name: list(held[name]) for name in held}

    def table_rows(self, name):
        """Return all rows of a table, in the order of their primary keys; raise NameFault for an unknown table."""
        primary = self.catalog.table_named(name).primary
        rows = self.held.get(name, [])
        if primary == ():
            return list(rows)
        return [row for key, row in sorted([(columns_key(row, primary), row) for row in rows], key=first_of)]

    def primary_rows(self, name, low, high):
        """Return the rows of a table with primary keys from low on and below high, as bytes, in order."""
        primary = self.catalog.table_named(name).primary
        return [row for row in self.table_rows(name) if is_between(columns_key(row, primary), low, high)]

    def index_rows(self, name, low, high):
        """Return the rows with keys of an index from low on and below high, as bytes, in the order of row keys."""
        if name not in self.catalog.indexes:
            raise NameFault(f"there is no index {name}")
        index = self.catalog.indexes[name]
        return [row for row in self.table_rows(index.table) if is_between(columns_key(row, index.places), low, high)]


def columns_key(row, places):
    """Return the bytes of a row's columns as a key."""
    return key_of([row[place] for place in places])


def is_between(key, low, high):
    """Return True if a key lies from one on and below another one, None for no bound."""
    return low <= key and (high is None or key < high)
