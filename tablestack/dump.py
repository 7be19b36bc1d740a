"""Dumps: a database as the statements that make it, and a standby that follows the log of another one's disk."""

from tablestack.disk import Disk
from tablestack.errors import DiskFault, StateFault, TableError
from tablestack.naming import names_checked, view_names, view_query
from tablestack.printer import declaration_text, index_text, rule_text, statement_text
from tablestack.rewrite import literal
from tablestack.schema import CONSTRAINT_SIGN
from tablestack.server import connect
from tablestack.values import value_text

ROWS_AT_ONCE = 5


def column_declaration(column):
    """Return the text that declares a column."""
    default = None if column.value is None else literal(column.value)
    return declaration_text((column.name, column.kind, column.needed, default))


def table_declaration(catalog, table):
    """Return the statement that creates a table with its constraints."""
    names = table.column_names()
    rules = []
    if table.primary != ():
        rules.append(("primary", names_at(names, table.primary)))
    for index in constraint_indexes(catalog, table):
        rules.append(("unique", names_at(names, index.places)))
    for places, other, there in table.references:
        others = names if other == table.name else catalog.table_named(other).column_names()
        rules.append(("foreign", names_at(names, places), other, names_at(others, there)))
    rules.extend([("check", check) for check in table.checks])
    parts = [column_declaration(column) for column in table.columns] + [rule_text(rule) for rule in rules]
    return f"create table {table.name} ({', '.join(parts)})"


def names_at(names, places):
    """Return the names at some places."""
    return tuple([names[place] for place in places])


def constraint_indexes(catalog, table):
    """Return the indexes of a table's unique constraints, in the order in which these were declared."""
    found = [index for index in catalog.indexes_of(table) if CONSTRAINT_SIGN in index.name]
    return sorted(found, key=constraint_number)


def constraint_number(index):
    """Return the number that ends the name of a constraint's index."""
    return int(index.name.partition(CONSTRAINT_SIGN)[2])


def index_declaration(catalog, index):
    """Return the statement that creates an index."""
    names = catalog.table_named(index.table).column_names()
    return index_text(("create_index", index.unique, index.name, index.table, names_at(names, index.places)))


def insert_texts(name, rows, many=ROWS_AT_ONCE):
    """Return the statements that insert rows, five or so many at a time."""
    texts = [f"({', '.join([value_text(value) for value in row])})" for row in rows]
    groups = [texts[start:start + many] for start in range(0, len(texts), many)]
    return [f"insert into {name} values {', '.join(group)}" for group in groups]


def view_declaration(catalog, name):
    """Return the statement that creates a view."""
    return statement_text(("create_view", name, view_query(catalog.views[name])))


def dump(engine):
    """Return the statements that make a database: tables, each after those it refers to, indexes and views by name.

    A table that refers to itself is filled by one statement. Views come after what they read, and ahead of the tables
    whose checks read them.
    """
    catalog = engine.store.catalog
    transaction = engine.begin()
    try:
        texts, made = tables_texts(catalog, transaction)
    except TableError:
        engine.rollback(transaction)
        raise
    engine.rollback(transaction)
    for name in sorted(catalog.indexes):
        if CONSTRAINT_SIGN not in name:
            texts.append(index_declaration(catalog, catalog.indexes[name]))
    texts.extend([view_declaration(catalog, name) for name in view_order(catalog) if name not in made])
    return texts


def tables_texts(catalog, transaction):
    """Return (statements that make and fill all tables, names of the views that they make since checks read these)."""
    texts = []
    made = []
    views = view_order(catalog)
    for name in table_order(catalog):
        table = catalog.tables[name]
        read = names_checked(catalog, table)
        needed = [view for view in views if view in read and view not in made]
        made.extend(needed)
        texts.extend([view_declaration(catalog, view) for view in needed])
        rows = transaction.table_rows(name)
        refers = any(reference[1] == name for reference in table.references)
        texts.append(table_declaration(catalog, table))
        texts.extend(insert_texts(name, rows, max(1, len(rows)) if refers else ROWS_AT_ONCE))
    return (texts, made)


def table_order(catalog):
    """Return the names of tables, each after those it refers to, otherwise in ascending order.

    A table comes after those that its checks read, too, since they are needed to create and to fill it.
    """
    needs = {}
    for name in catalog.tables:
        table = catalog.tables[name]
        others = [reference[1] for reference in table.references] + names_checked(catalog, table)
        needs[name] = [other for other in others if other != name]
    return needed_order(needs)


def view_order(catalog):
    """Return the names of views, each after those it reads, otherwise in ascending order."""
    return needed_order({name: view_names(catalog, name) for name in catalog.views})


def needed_order(needs):
    """Return names, each after those among them that it needs, otherwise in ascending order.

    If none can come next, since names need one another, the first one does.
    """
    found = []
    left = sorted(needs)
    while left != []:
        ready = [name for name in left if not any(one in left for one in needs[name])]
        chosen = ready[0] if ready != [] else left[0]
        found.append(chosen)
        left.remove(chosen)
    return found


def restore(statements, disk, capacity=16):
    """Return a session over a disk in which statements were carried out; raise what they raise."""
    session = connect(disk, capacity)
    for text in statements:
        session.run(text)
    return session


class Standby:
    """A copy of another database's blocks and log, which follows it."""

    def __init__(self, block_size):
        self.block_size = block_size
        self.blocks = {}
        self.log = ()
        self.copies = 0
        self.promoted = False

    def follow(self, disk):
        """Take over what a disk has kept: more of its log, or all blocks if the log does not go on from here.

        Return how many bytes or blocks were taken. Raise StateFault for a promoted standby, DiskFault for other blocks.
        """
        if self.promoted:
            raise StateFault("a promoted standby follows nothing")
        if disk.block_size != self.block_size:
            raise DiskFault("the blocks have another size")
        many = len(self.log)
        if many > 0 and disk.log[:many] == self.log:
            self.log = disk.log
            return len(disk.log) - many
        self.blocks = dict(disk.blocks)
        self.log = disk.log
        self.copies += 1
        return len(self.blocks)

    def promote(self):
        """End following, and return the disk of a database that goes on from what was taken over."""
        if self.promoted:
            raise StateFault("the standby is promoted already")
        self.promoted = True
        return Disk(self.block_size, self.blocks, self.log)
