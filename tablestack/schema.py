"""Schemas: tables, columns, indexes and constraints, and the catalog of a database."""

from tablestack.errors import ConstraintFault, KindFault, NameFault
from tablestack.values import kind_of

# A constraint's index has a name that no statement can give to another one.
CONSTRAINT_SIGN = "."


class Column:
    """A column: its name, its kind ("int" or "text"), whether NULL is refused, and its default value."""

    def __init__(self, name, kind, needed, value):
        self.name = name
        self.kind = kind
        self.needed = needed
        self.value = value

    def shown(self):
        """Return (name, kind, needed, value)."""
        return (self.name, self.kind, self.needed, self.value)


class Index:
    """An index: its name, its table, whether it is unique, and the places of its columns."""

    def __init__(self, name, table, unique, places):
        self.name = name
        self.table = table
        self.unique = unique
        self.places = tuple(places)

    def shown(self):
        """Return (name, table, unique, places)."""
        return (self.name, self.table, self.unique, self.places)


class Table:
    """A table: its name, its columns, the places of its primary key, its checks as trees, and its references.

    A reference is (places, another table's name, places there).
    """

    def __init__(self, name, columns, primary, checks, references=()):
        self.name = name
        self.columns = tuple(columns)
        self.primary = tuple(primary)
        self.checks = tuple(checks)
        self.references = tuple(references)

    def column_names(self):
        """Return the names of the columns, in order."""
        return tuple([column.name for column in self.columns])

    def place_named(self, name):
        """Return the place of a column; raise NameFault for an unknown one."""
        for place, column in enumerate(self.columns):
            if column.name == name:
                return place
        raise NameFault(f"{self.name} has no column {name}")

    def places_of(self, names):
        """Return the places of columns, each named once; raise NameFault for others."""
        if any(names.count(name) > 1 for name in names):
            raise NameFault("a column is named twice")
        return tuple([self.place_named(name) for name in names])

    def check_row(self, row):
        """Raise KindFault for a value of another kind than its column's, ConstraintFault for a NULL that is refused."""
        if len(row) != len(self.columns):
            raise KindFault(f"a row of {self.name} has another number of values")
        for place, column in enumerate(self.columns):
            if row[place] is None:
                if column.needed or place in self.primary:
                    raise ConstraintFault(f"{column.name} may not be null")
            elif kind_of(row[place]) != column.kind:
                raise KindFault(f"{column.name} is of kind {column.kind}")


class Catalog:
    """Tables, indexes and views by their names; a view is its query, as a text or as a tuple."""

    def __init__(self):
        self.tables = {}
        self.indexes = {}
        self.views = {}

    def copied(self):
        """Return a catalog of the same tables and indexes."""
        other = Catalog()
        other.tables = {name: self.tables[name] for name in self.tables}
        other.indexes = {name: self.indexes[name] for name in self.indexes}
        other.views = {name: self.views[name] for name in self.views}
        return other

    def table_named(self, name):
        """Return a table; raise NameFault for an unknown one."""
        if name not in self.tables:
            raise NameFault(f"there is no table {name}")
        return self.tables[name]

    def indexes_of(self, table):
        """Return the indexes of a table, in ascending order of their names."""
        owner = table.name if isinstance(table, Table) else table
        return [self.indexes[name] for name in sorted(self.indexes) if self.indexes[name].table == owner]

    def add_table(self, table):
        """Add a table; raise NameFault if there is a table or a view of that name."""
        if table.name in self.tables or table.name in self.views:
            raise NameFault(f"{table.name} is declared already")
        self.tables[table.name] = table

    def add_index(self, index):
        """Add an index; raise NameFault if there is one of that name."""
        if index.name in self.indexes:
            raise NameFault(f"{index.name} is declared already")
        self.indexes[index.name] = index

    def shown(self):
        """Return the shown tables, indexes and views, in ascending order of their names."""
        tables = [table_shown(self.tables[name]) for name in sorted(self.tables)]
        indexes = [self.indexes[name].shown() for name in sorted(self.indexes)]
        views = [(name, self.views[name]) for name in sorted(self.views)]
        return (tuple(tables), tuple(indexes), tuple(views))


def table_shown(table):
    """Return (name, shown columns, primary, checks, references) of a table."""
    columns = tuple([column.shown() for column in table.columns])
    return (table.name, columns, table.primary, table.checks, table.references)


def table_from(shown):
    """Return the table that a shown one tells."""
    name, columns, primary, checks, references = shown
    declared = [Column(one, kind, needed, value) for one, kind, needed, value in columns]
    return Table(name, declared, primary, checks, references)


def declared_table(statement):
    """Return (table, indexes of its unique constraints) of a statement that creates one; raise its faults.

    Its references are those to itself; those to other tables come with a catalog.
    """
    _, name, declared, rules = statement
    names = [one[0] for one in declared]
    if any(names.count(one) > 1 for one in names):
        raise NameFault("a column is declared twice")
    columns = [declared_column(one) for one in declared]
    table = Table(name, columns, (), [rule[1] for rule in rules if rule[0] == "check"])
    primary = [table.places_of(rule[1]) for rule in rules if rule[0] == "primary"]
    if len(primary) > 1:
        raise NameFault("there are two primary keys")
    if primary != []:
        table.primary = primary[0]
    keys = [table.places_of(rule[1]) for rule in rules if rule[0] == "unique"]
    indexes = [Index(f"{name}{CONSTRAINT_SIGN}{number}", name, True, places) for number, places in enumerate(keys)]
    own = [rule for rule in declared_references(table, rules) if rule[2] == name]
    table.references = tuple([reference_to(table, rule, table, indexes) for rule in own])
    return (table, tuple(indexes))


def declared_column(declared):
    """Return the column that a statement declares."""
    name, kind, needed, default = declared
    value = None if default is None else literal_value(default, kind)
    return Column(name, kind, needed, value)


def literal_value(tree, kind):
    """Return the value of a literal of a kind; raise KindFault for another expression."""
    if tree[0] == "null":
        return None
    if tree[0] not in ("int", "text") or tree[0] != kind:
        raise KindFault("a default must be a literal of its column's kind")
    return tree[1]


def declared_references(table, rules):
    """Return the rules of a table's references; raise NameFault for columns that it does not have, or for too few."""
    found = [rule for rule in rules if rule[0] == "foreign"]
    for rule in found:
        if len(table.places_of(rule[1])) != len(rule[3]):
            raise NameFault("a reference needs as many columns")
    return found


def reference_to(table, rule, other, indexes):
    """Return the reference of a table's rule to another table with its indexes; raise NameFault or KindFault."""
    places = table.places_of(rule[1])
    there = other.places_of(rule[3])
    keys = [index.places for index in indexes if CONSTRAINT_SIGN in index.name]
    wanted = sorted(there)
    if wanted != sorted(other.primary) and not any(wanted == sorted(key) for key in keys):
        raise NameFault("a reference needs a primary key or a unique constraint")
    for here, place in zip(places, there):
        if table.columns[here].kind != other.columns[place].kind:
            raise KindFault("a reference needs columns of the same kinds")
    return (places, other.name, there)


def referring_table(catalog, statement):
    """Return (table, indexes) of a statement that creates a table, all its references included; raise its faults."""
    table, indexes = declared_table(statement)
    references = []
    for rule in declared_references(table, statement[3]):
        if rule[2] == table.name:
            references.append(reference_to(table, rule, table, indexes))
        else:
            other = catalog.table_named(rule[2])
            references.append(reference_to(table, rule, other, catalog.indexes_of(other)))
    table.references = tuple(references)
    return (table, indexes)
