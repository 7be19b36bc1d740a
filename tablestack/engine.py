"""Engine: transactions over a store, each of which reads the rows as they were when it began."""

from tablestack.codec import upper_key
from tablestack.errors import ConflictFault, ConstraintFault, NameFault, StateFault, TableError
from tablestack.evaluate import first_of
from tablestack.pager import recover
from tablestack.store import Store


class Transaction:
    """What a transaction sees: the stamp at which it began, its own rows by table and key, the tables it has read.

    An own row is None where the transaction has dropped it. The rows that it sees of a table are kept until it changes
    some, and so are the keys of its own rows in unique indexes.
    """

    def __init__(self, engine, stamp):
        self.engine = engine
        self.stamp = stamp
        self.own = {}
        self.read = {}
        self.last_change = ("", {})
        self.seen_rows = {}
        self.own_keys = {}

    def store_of(self, name):
        """Return the store of a table, which counts as read from now on; raise NameFault for an unknown one."""
        self.engine.store.catalog.table_named(name)
        self.read[name] = True
        return self.engine.store.stores[name]

    def own_rows(self, name):
        """Return a table of the row keys to the own rows of a table."""
        return self.own.get(name, {})

    def keyed_rows(self, name):
        """Return (row key, row) of all rows of a table that the transaction sees, in the order of their keys."""
        store = self.store_of(name)
        if name not in self.seen_rows:
            own = self.own_rows(name)
            self.seen_rows[name] = merged_rows(store.rows_at(self.stamp), own, list(own))
        return list(self.seen_rows[name])

    def table_rows(self, name):
        """Return all rows of a table that the transaction sees, in the order of their keys."""
        return [row for row_key, row in self.keyed_rows(name)]

    def row_count(self, name):
        """Return the number of rows of a table that the transaction sees."""
        if name in self.seen_rows or self.own_rows(name) != {}:
            return len(self.keyed_rows(name))
        self.store_of(name)
        return self.engine.count_rows(name, self.stamp)

    def primary_pairs(self, name, low, high):
        """Return (row key, row) of the rows with primary keys from low on and below high, as bytes, in order."""
        store = self.store_of(name)
        own = self.own_rows(name)
        within = [row_key for row_key in own if is_within(row_key, low, high)]
        return merged_rows(store.rows_between(low, high, self.stamp), own, within)

    def primary_rows(self, name, low, high):
        """Return the rows with primary keys from low on and below high, as bytes, in order."""
        return [row for row_key, row in self.primary_pairs(name, low, high)]

    def indexed_pairs(self, name, low, high):
        """Return (row key, row) of the rows with index keys from low on and below high, in the order of row keys."""
        catalog = self.engine.store.catalog
        if name not in catalog.indexes:
            raise NameFault(f"there is no index {name}")
        index = catalog.indexes[name]
        store = self.store_of(index.table)
        own = self.own_rows(index.table)
        held = [row_key for row_key in own if own[row_key] is not None]
        within = [row_key for row_key in held if is_within(store.index_key(index, own[row_key]), low, high)]
        return merged_rows(store.index_rows(name, low, high, self.stamp), own, within)

    def index_rows(self, name, low, high):
        """Return the rows with index keys from low on and below high, as bytes, in the order of row keys."""
        return [row for row_key, row in self.indexed_pairs(name, low, high)]

    def row(self, name, row_key):
        """Return the row of a key that the transaction sees, None if there is none."""
        store = self.store_of(name)
        own = self.own_rows(name)
        if row_key in own:
            return own[row_key]
        return store.visible(row_key, self.stamp)

    def change(self, name, gone, rows):
        """Drop rows of some keys from a table, and add (number, row) pairs; raise ConstraintFault and change nothing.

        A statement's rows are checked together: keys, unique columns and sizes when all rows are in their places.
        """
        store = self.store_of(name)
        put = {row_key: None for row_key in gone}
        for number, row in rows:
            row_key = store.row_key(row, number)
            seen = put[row_key] if row_key in put else self.row(name, row_key)
            if seen is not None:
                raise ConstraintFault("a key is there already")
            if not store.fits(row_key, row):
                raise ConstraintFault("a row does not fit")
            put[row_key] = tuple(row)
        for index, _ in store.index_pairs():
            if index.unique:
                self.check_unique(store, index, put)
        self.last_change = (name, {})
        if put != {}:
            self.take_in(store, put)

    def check_unique(self, store, index, put):
        """Raise ConstraintFault if a row that is put has the values of an index that another row has then, too."""
        own = self.own_rows(index.table)
        known = self.unique_keys(store, index)
        taken = {}
        for row_key in put:
            row = put[row_key]
            if row is not None and not has_null(index, row):
                key = store.index_key(index, row)
                found = store.index_rows(index.name, key, upper_key(key), self.stamp)
                others = [one for one, other in found if one not in own]
                if key in known:
                    others.append(known[key])
                if key in taken or any(one not in put for one in others):
                    raise ConstraintFault(f"two rows share the values of {index.name}")
                taken[key] = True

    def unique_keys(self, store, index):
        """Return a table of the keys of own rows in a unique index, without those with NULL, to the rows' keys."""
        if index.name not in self.own_keys:
            own = self.own_rows(index.table)
            held = [row_key for row_key in own if own[row_key] is not None and not has_null(index, own[row_key])]
            self.own_keys[index.name] = {store.index_key(index, own[row_key]): row_key for row_key in held}
        return self.own_keys[index.name]

    def take_in(self, store, put):
        """Set own rows of a table; what they were before can be taken back."""
        name = store.table.name
        rows = self.own.setdefault(name, {})
        self.last_change = (name, {row_key: (row_key in rows, rows.get(row_key)) for row_key in put})
        for index, _ in store.index_pairs():
            if index.name in self.own_keys:
                self.move_keys(store, index, put)
        for row_key in put:
            rows[row_key] = put[row_key]
        self.seen_rows.pop(name, None)

    def move_keys(self, store, index, put):
        """Bring the known keys of own rows in a unique index up to date with own rows that are to be set."""
        known = self.own_keys[index.name]
        own = self.own_rows(index.table)
        for row_key in put:
            if own.get(row_key) is not None:
                known.pop(store.index_key(index, own[row_key]), None)
        for row_key in put:
            if put[row_key] is not None and not has_null(index, put[row_key]):
                known[store.index_key(index, put[row_key])] = row_key

    def take_back(self):
        """Undo the last change."""
        name, before = self.last_change
        rows = self.own.get(name, {})
        for row_key in before:
            was_there, row = before[row_key]
            if was_there:
                rows[row_key] = row
            else:
                del rows[row_key]
        if rows == {}:
            self.own.pop(name, None)
        self.forget_rows()

    def saved(self):
        """Return the own rows, so that they can be brought back."""
        return {name: {row_key: self.own[name][row_key] for row_key in self.own[name]} for name in self.own}

    def bring_back(self, saved):
        """Undo all changes since own rows were saved."""
        self.own = {name: {row_key: saved[name][row_key] for row_key in saved[name]} for name in saved}
        self.forget_rows()

    def forget_rows(self):
        """Forget what is known of the rows that the transaction sees."""
        self.seen_rows = {}
        self.own_keys = {}


def merged_rows(pairs, own, within):
    """Return (row key, row) pairs in order, with some of the own rows in the places of those with own rows' keys."""
    if own == {}:
        return pairs
    found = [pair for pair in pairs if pair[0] not in own]
    found.extend([(row_key, own[row_key]) for row_key in within if own[row_key] is not None])
    return sorted(found, key=first_of)


def is_within(key, low, high):
    """Return True if a key lies from one on and below another one, None for no bound."""
    return key >= low and (high is None or key < high)


def has_null(index, row):
    """Return True if a row has NULL among an index's columns, so that it is equal to no other row."""
    return any(row[place] is None for place in index.places)


class Engine:
    """A store, the stamp of the last commit, when each table changed last, and the transactions that are open.

    How many rows a table has is kept with the stamp of its last change; what analyzing it told is kept, too.
    """

    def __init__(self, pager):
        self.pager = pager
        self.store = Store(pager)
        self.stamp = pager.last_stamp()
        self.changed = {}
        self.active = []
        self.numbers = {}
        self.counts = {}
        self.summaries = {}

    def begin(self):
        """Begin a transaction and return it."""
        transaction = Transaction(self, self.stamp)
        self.active.append(transaction)
        return transaction

    def next_number(self, name):
        """Return the next row number of a table; it is given once only, whatever comes of it."""
        self.store.catalog.table_named(name)
        number = max(self.numbers.get(name, 0), self.store.stores[name].next_number())
        self.numbers[name] = number + 1
        return number

    def count_rows(self, name, stamp):
        """Return the number of rows of a table as they were at a stamp."""
        last = self.changed.get(name, 0)
        if stamp < last:
            return self.store.stores[name].count_at(stamp)
        if name not in self.counts or self.counts[name][0] != last:
            self.counts[name] = (last, self.store.stores[name].count_at(stamp))
        return self.counts[name][1]

    def conflicts(self, transaction):
        """Return the tables read or changed by a transaction that others changed since it began, in ascending order."""
        names = [*transaction.read, *[name for name in transaction.own if name not in transaction.read]]
        return sorted([name for name in names if self.changed.get(name, 0) > transaction.stamp])

    def end(self, transaction):
        """Take a transaction from the open ones; raise StateFault for one that has ended."""
        if transaction not in self.active:
            raise StateFault("the transaction has ended")
        self.active.remove(transaction)

    def commit(self, transaction):
        """Commit a transaction and return its stamp; raise ConflictFault, which ends it, if what it read has changed.

        A transaction that changes nothing always commits, and has the stamp at which it began.
        """
        self.end(transaction)
        if transaction.own == {}:
            return transaction.stamp
        if self.conflicts(transaction) != []:
            raise ConflictFault("another transaction changed what this one read")
        try:
            growth = self.pager.whole(self.carry_group, self.write_rows, transaction.own, self.stamp + 1)
        except TableError:
            self.active.append(transaction)
            raise
        self.stamp += 1
        for name in growth:
            self.move_count(name, growth[name])
            self.changed[name] = self.stamp
        return self.stamp

    def carry_group(self, change, *arguments):
        """Return what a change of pages returns, and end the group with the next stamp."""
        found = change(*arguments)
        self.pager.commit(self.stamp + 1)
        return found

    def move_count(self, name, growth):
        """Bring the number of rows of a table up to date, if it is known, with a change at the last stamp."""
        if name in self.counts and self.counts[name][0] == self.changed.get(name, 0):
            self.counts[name] = (self.stamp, self.counts[name][1] + growth)

    def write_rows(self, own, stamp):
        """Write a transaction's own rows as versions; return a table of tables to how many rows they have more."""
        growth = {}
        for name in sorted(own):
            store = self.store.stores[name]
            many = 0
            for row_key in sorted(own[name]):
                row = own[name][row_key]
                before = store.visible(row_key, stamp)
                many += (0 if row is None else 1) - (0 if before is None else 1)
                store.write(row_key, row, stamp)
            growth[name] = many
        return growth

    def rollback(self, transaction):
        """End a transaction without its changes."""
        self.end(transaction)

    def define(self, change):
        """Carry out a change of the catalog in a group of its own; raise StateFault while transactions are open.

        The change is a function of the store.
        """
        if self.active != []:
            raise StateFault("a transaction is open")
        self.store.change_whole(self.carry_group, change, self.store)
        self.stamp += 1
        self.counts = {}
        tables = self.store.catalog.tables
        self.summaries = {name: self.summaries[name] for name in self.summaries if name in tables}

    def oldest(self):
        """Return the least stamp that an open transaction sees, or the last commit's."""
        return min([self.stamp, *[transaction.stamp for transaction in self.active]])

    def vacuum(self):
        """Drop versions that nobody can see, in a group of its own; return how many versions."""
        many = self.pager.whole(self.carry_group, self.vacuum_tables, self.oldest())
        self.stamp += 1
        return many

    def vacuum_tables(self, oldest):
        """Drop the versions of all tables that no snapshot from a stamp on sees; return how many."""
        return sum([self.store.stores[name].vacuum(oldest) for name in sorted(self.store.stores)])

    def checkpoint(self):
        """Write all pages and clear the log."""
        self.pager.checkpoint()

    def check(self):
        """Return the number of pages in use; raise a fault if something is out of order."""
        return self.store.check()


def open_engine(disk, capacity=16):
    """Return the engine of a disk, new, old or after a crash."""
    return Engine(recover(disk, capacity))
