"""Store: tables' rows in versions, their indexes, and the catalog, in trees.

A version's key is the row's key and 8 bytes that are smaller for a later stamp; its value is the row's record, empty
for a row that is gone. An index's key is its columns' values and the row's key, for every version that is held.
"""

from tablestack.btree import Tree
from tablestack.codec import fixed, key_of, number_from, record_of, row_from, upper_key, values_end, values_from_key
from tablestack.entries import (
    INDEX_LETTER, TABLE_LETTER, VIEW_LETTER, drop_entry, piece_size, put_entry, read_entries,
)
from tablestack.errors import ConstraintFault, NameFault, TableError, TreeFault
from tablestack.pager import META_NUMBER, ROOT_NUMBER
from tablestack.pages import LEAF, Page
from tablestack.schema import Catalog, Index, table_from, table_shown

LAST_STAMP = 2 ** 62
STAMP_BYTES = 8
# The value of a version that says that the row is gone.
GONE = ()


def version_key(row_key, stamp):
    """Return the key of a row's version."""
    return (*row_key, *fixed(LAST_STAMP - stamp, STAMP_BYTES))


def split_version(key):
    """Return (row key, stamp) of a version's key."""
    return (key[:-STAMP_BYTES], LAST_STAMP - number_from(key[-STAMP_BYTES:]))


class TableStore:
    """A table, the tree of its versions, and its indexes' trees by their names: (index, tree) under each name."""

    def __init__(self, table, tree, indexes):
        self.table = table
        self.tree = tree
        self.indexes = indexes

    def row_key(self, row, number):
        """Return the key of a row: its primary key's values, or a number if the table has no primary key."""
        if self.table.primary == ():
            return key_of((number,))
        return key_of([row[place] for place in self.table.primary])

    def next_number(self):
        """Return a number above those of all rows that are held, for a table without a primary key."""
        last = self.tree.last_key()
        if last is None:
            return 1
        return values_from_key(split_version(last)[0])[0] + 1

    def visible(self, row_key, stamp):
        """Return the row of a key as it was at a stamp, None if it was not there."""
        cell = self.tree.first_cell(version_key(row_key, stamp), upper_key(row_key))
        if cell is None or cell[1] == GONE:
            return None
        return row_from(cell[1])

    def last_versions(self, low, high, stamp):
        """Return (row key, value) of the rows with keys from low on and below high: their last versions up to a stamp.

        Those of rows that were gone are left out.
        """
        latest = fixed(LAST_STAMP - stamp, STAMP_BYTES)
        found = []
        before = None
        for row_key, when, value in cells_between(self.tree, low, high, max(1, len(self.table.primary))):
            if row_key != before and when >= latest:
                before = row_key
                if value != GONE:
                    found.append((row_key, value))
        return found

    def count_at(self, stamp):
        """Return the number of rows as they were at a stamp."""
        return len(self.last_versions((), None, stamp))

    def rows_at(self, stamp):
        """Return (row key, row) of all rows as they were at a stamp, in the order of their keys."""
        return self.rows_between((), None, stamp)

    def rows_between(self, low, high, stamp):
        """Return (row key, row) of the rows with keys from low on and below high, as they were at a stamp."""
        return [(row_key, row_from(value)) for row_key, value in self.last_versions(low, high, stamp)]

    def index_key(self, index, row):
        """Return the bytes of an index's columns in a row."""
        return key_of([row[place] for place in index.places])

    def index_rows(self, name, low, high, stamp):
        """Return (row key, row) of rows whose index keys lie from low on and below high, as they were at a stamp.

        They stand in the order of row keys. A key leads to a row that had it in any version, perhaps not in this one.
        """
        index, tree = self.indexes[name]
        found = {}
        for key, row_key, _ in cells_between(tree, low, high, len(index.places)):
            row = self.visible(row_key, stamp)
            if row is not None and self.index_key(index, row) == key:
                found[row_key] = row
        return [(row_key, found[row_key]) for row_key in sorted(found)]

    def index_pairs(self):
        """Return the (index, tree) pairs of the indexes, in ascending order of their names."""
        return [self.indexes[name] for name in sorted(self.indexes)]

    def fits(self, row_key, row):
        """Return True if a version of a row, and its keys in all indexes, may be held."""
        if not self.tree.fits(version_key(row_key, 0), record_of(row)):
            return False
        return all(tree.fits((*self.index_key(index, row), *row_key), ()) for index, tree in self.index_pairs())

    def write(self, row_key, row, stamp):
        """Add a version of a row, None for a row that goes; neither it nor its index keys are there after a fault."""
        self.tree.pager.whole(self.put_version, row_key, row, stamp)

    def put_version(self, row_key, row, stamp):
        """Add a version of a row; what is done ahead of a fault stays."""
        if row is None:
            self.tree.put(version_key(row_key, stamp), GONE)
            return
        self.tree.put(version_key(row_key, stamp), record_of(row))
        for index, tree in self.index_pairs():
            tree.put((*self.index_key(index, row), *row_key), ())

    def vacuum(self, oldest):
        """Drop versions that no snapshot from a stamp on sees, and index keys without a version; return how many."""
        return self.tree.pager.whole(self.drop_versions, oldest)

    def drop_versions(self, oldest):
        """Drop versions that no snapshot from a stamp on sees; what is done ahead of a fault stays."""
        versions = {}
        for key, value in self.tree.scan():
            row_key, stamp = split_version(key)
            versions.setdefault(row_key, []).append((stamp, value))
        many = 0
        for row_key in versions:
            kept, dropped = parted_versions(versions[row_key], oldest)
            for stamp, _ in dropped:
                self.tree.remove(version_key(row_key, stamp))
            self.drop_index_keys(row_key, held_rows(dropped), held_rows(kept))
            many += len(dropped)
        return many

    def drop_index_keys(self, row_key, gone, left):
        """Drop the index keys of rows that a row was, but those of the rows that it still is in some version."""
        for index, tree in self.index_pairs():
            wanted = [self.index_key(index, row) for row in left]
            for key in [self.index_key(index, row) for row in gone]:
                if key not in wanted:
                    tree.remove((*key, *row_key))

    def versions(self):
        """Return the (key, value) cells of all versions that are held."""
        return self.tree.scan()


def cells_between(tree, low, high, many):
    """Return (first so many values, what is behind them, value) of a tree's keys whose values lie between two keys.

    They lie from low on and below high, all above low for None.
    """
    end = None if high is None else values_end(high, many)
    # Keys whose values are the beginning of high lie below it, but with what is behind them they may stand above it.
    top = high if end is None or end == len(high) else upper_key(high[:end])
    found = []
    for key, value in tree.scan(low, top):
        place = values_end(key, many)
        values = key[:place]
        if values >= low and (high is None or values < high):
            found.append((values, key[place:], value))
    return found


def parted_versions(versions, oldest):
    """Return (those that a vacuum keeps, those that it drops) of a row's (stamp, value) versions, the latest first."""
    later = [version for version in versions if version[0] > oldest]
    others = versions[len(later):]
    if others != [] and others[0][1] != GONE:
        return ([*later, others[0]], others[1:])
    return (later, others)


def held_rows(versions):
    """Return the rows of (stamp, value) versions, without those that say that the row is gone."""
    return [row_from(value) for stamp, value in versions if value != GONE]


class Store:
    """A pager, its catalog's tree, the catalog, and the stores of its tables."""

    def __init__(self, pager):
        self.pager = pager
        self.catalog_tree = Tree(pager, ROOT_NUMBER)
        self.catalog = Catalog()
        self.stores = {}
        entries = read_entries(self.catalog_tree)
        for name, (shown, root) in entries[TABLE_LETTER]:
            self.add_table(table_from(shown), Tree(pager, root))
        for name, (shown, root) in entries[INDEX_LETTER]:
            self.add_index(Index(*shown), Tree(pager, root))
        for name, query in entries[VIEW_LETTER]:
            self.catalog.views[name] = query

    def add_table(self, table, tree):
        """Take in a table whose versions stand in a tree."""
        self.catalog.add_table(table)
        self.stores[table.name] = TableStore(table, tree, {})

    def add_index(self, index, tree):
        """Take in an index whose keys stand in a tree."""
        self.catalog.add_index(index)
        self.stores[index.table].indexes[index.name] = (index, tree)

    def fresh_tree(self):
        """Return a new tree."""
        return Tree(self.pager, self.pager.fresh(Page(LEAF, 0, ())))

    def saved(self):
        """Return what is known of the catalog and the stores, so that it can be brought back."""
        indexes = {name: dict(self.stores[name].indexes) for name in self.stores}
        return (self.catalog.copied(), dict(self.stores), indexes)

    def bring_back(self, saved):
        """Know of the catalog and the stores what was saved; their tables stay the same ones, which others may hold."""
        before, stores, indexes = saved
        refill(self.catalog.tables, before.tables)
        refill(self.catalog.indexes, before.indexes)
        refill(self.catalog.views, before.views)
        refill(self.stores, stores)
        for name in indexes:
            refill(stores[name].indexes, indexes[name])

    def change_whole(self, change, *arguments):
        """Carry out a change of the catalog; if it raises a fault, the catalog and all pages are as they were."""
        saved = self.saved()
        try:
            self.pager.whole(change, *arguments)
        except TableError:
            self.bring_back(saved)
            raise

    def create_table(self, table, indexes):
        """Add a table and its constraints' indexes."""
        self.change_whole(self.put_table, table, indexes)

    def put_table(self, table, indexes):
        """Add a table and its constraints' indexes; what is done ahead of a fault stays."""
        piece_size(self.catalog_tree, TABLE_LETTER, table.name)
        for index in indexes:
            piece_size(self.catalog_tree, INDEX_LETTER, index.name)
        tree = self.fresh_tree()
        self.add_table(table, tree)
        put_entry(self.catalog_tree, TABLE_LETTER, table.name, (table_shown(table), tree.root))
        for index in indexes:
            self.put_index(index)

    def create_index(self, index):
        """Add an index over the rows that are there; raise ConstraintFault if it cannot hold them."""
        self.change_whole(self.put_index, index)

    def put_index(self, index):
        """Add an index over the rows that are there; what is done ahead of a fault stays."""
        piece_size(self.catalog_tree, INDEX_LETTER, index.name)
        self.catalog.table_named(index.table)
        tree = self.fresh_tree()
        self.add_index(index, tree)
        put_entry(self.catalog_tree, INDEX_LETTER, index.name, (index.shown(), tree.root))
        self.fill_index(index, tree)

    def fill_index(self, index, tree):
        """Put the keys of all versions of a table's rows into an index's tree; raise ConstraintFault.

        Versions that nobody sees are dropped if their keys do not fit, since only rows that are there count.
        """
        stamp = self.pager.last_stamp()
        store = self.stores[index.table]
        rows = store.rows_at(stamp)
        if index.unique and shares_values(index, [row for row_key, row in rows]):
            raise ConstraintFault(f"rows share the values of {index.name}")
        if not all(tree.fits((*store.index_key(index, row), *row_key), ()) for row_key, row in rows):
            raise ConstraintFault(f"a row does not fit {index.name}")
        keys = index_keys(store, index)
        if not all(tree.fits(key, ()) for key in keys):
            store.vacuum(stamp)
            keys = index_keys(store, index)
        for key in keys:
            tree.put(key, ())

    def create_view(self, name, query):
        """Add a view; its query, a tuple or a text, is kept as it is told."""
        self.change_whole(self.put_view, name, query)

    def put_view(self, name, query):
        """Add a view; what is done ahead of a fault stays."""
        piece_size(self.catalog_tree, VIEW_LETTER, name)
        if name in self.catalog.tables or name in self.catalog.views:
            raise NameFault(f"{name} is declared already")
        self.catalog.views[name] = query
        put_entry(self.catalog_tree, VIEW_LETTER, name, query)

    def drop_table(self, name):
        """Drop a table with its rows and indexes."""
        for index in self.catalog.indexes_of(name):
            self.drop_index(index.name)
        self.drop_tree(self.stores[name].tree)
        del self.catalog.tables[name]
        del self.stores[name]
        drop_entry(self.catalog_tree, TABLE_LETTER, name)

    def drop_index(self, name):
        """Drop an index."""
        indexes = self.stores[self.catalog.indexes[name].table].indexes
        self.drop_tree(indexes[name][1])
        del indexes[name]
        del self.catalog.indexes[name]
        drop_entry(self.catalog_tree, INDEX_LETTER, name)

    def drop_view(self, name):
        """Drop a view."""
        del self.catalog.views[name]
        drop_entry(self.catalog_tree, VIEW_LETTER, name)

    def drop_tree(self, tree):
        """Free all pages of a tree."""
        tree.clear()
        self.pager.free(tree.root)

    def trees(self):
        """Return (name, tree) of all trees: the catalog's, named "", those of tables, and those of indexes."""
        tables = [(name, self.stores[name].tree) for name in sorted(self.stores)]
        indexes = {}
        for name in self.stores:
            for index, tree in self.stores[name].index_pairs():
                indexes[index.name] = tree
        return [("", self.catalog_tree), *tables, *[(name, indexes[name]) for name in sorted(indexes)]]

    def check(self):
        """Return the number of pages in use; raise a fault if a tree is out of order, or pages are lost or shared."""
        free = self.pager.free_pages()
        used = [META_NUMBER, *free]
        for _, tree in self.trees():
            tree.check()
            used.extend(tree.page_numbers())
        if sorted(used) != list(range(self.pager.page_count())):
            raise TreeFault("pages are lost or shared")
        check_indexes(self)
        return len(used) - len(free)


def refill(found, wanted):
    """Let a table of names hold what another one holds."""
    found.clear()
    found.update(wanted)


def shares_values(index, rows):
    """Return True if rows share values of an index, rows with NULL among these left out."""
    values = [tuple([row[place] for place in index.places]) for row in rows]
    known = [one for one in values if None not in one]
    return len(set(known)) < len(known)


def index_keys(store, index):
    """Return the keys of an index over all versions of rows that a table's store holds, each once, in order."""
    found = {}
    for key, value in store.versions():
        if value != GONE:
            row_key, _ = split_version(key)
            index_key = (*store.index_key(index, row_from(value)), *row_key)
            found[index_key] = True
    return sorted(found)


def check_indexes(store):
    """Raise TreeFault if an index has other keys than the versions that are held.

    The store is that of one table, or of all.
    """
    if isinstance(store, Store):
        for name in sorted(store.stores):
            check_indexes(store.stores[name])
        return
    for index, tree in store.index_pairs():
        if [key for key, value in tree.scan()] != index_keys(store, index):
            raise TreeFault(f"the index {index.name} does not fit its table")
