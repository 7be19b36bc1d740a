"""Point 18 and the engine: transactions, what they read, conflicts, stamps, changes of the catalog, vacuums."""

import random
import unittest

from tablestack.codec import key_of, upper_key
from tablestack.disk import Disk
from tablestack.engine import Engine, Transaction, open_engine
from tablestack.errors import ConflictFault, ConstraintFault, DiskFault, NameFault, PageFault, StateFault
from tablestack.pager import format_disk
from tablestack.parser import parse
from tablestack.schema import declared_table
from tablestack.store import Store, split_version
from tests.databases import store_with
from tests.faults import check_each_fault, store_state
from tests.test_store import TEXT

TABLES = ("create table t (a int, b text, primary key (a), unique (b))", "create table u (d int, e int)")


def engine_with(*texts, size=400, capacity=16):
    """Return an engine over tables that statements create."""
    store = store_with(*texts, size=size, capacity=capacity)
    store.pager.commit(1)
    return Engine(store.pager)


def key(number):
    return key_of((number,))


def committed(engine, name, gone, rows):
    """Carry out a change in a transaction of its own; return its stamp."""
    transaction = engine.begin()
    transaction.change(name, gone, rows)
    return engine.commit(transaction)


def put(transaction, *rows):
    """Put rows into t."""
    transaction.change("t", (), [(0, row) for row in rows])


class SeenTest(unittest.TestCase):
    def test_new_engines(self):
        engine = open_engine(Disk(96), 1)
        self.assertEqual((engine.stamp, engine.active, engine.changed, engine.store.catalog.shown()),
            (0, [], {}, ((), (), ())))
        self.assertEqual((engine.pager.capacity, engine.check(), engine.oldest(), engine.vacuum()), (1, 2, 0, 0))
        self.assertRaises(PageFault, open_engine, Disk(95))
        transaction = engine.begin()
        self.assertEqual((transaction.engine, transaction.stamp, transaction.own, list(transaction.read)),
            (engine, 1, {}, []))

    def test_rows_as_they_were_at_the_begin(self):
        engine = engine_with(*TABLES)
        committed(engine, "t", (), [(0, (1, "x")), (0, (2, "y"))])
        early = engine.begin()
        self.assertEqual(committed(engine, "t", [key(1)], [(0, (3, "z"))]), 3)
        late = engine.begin()
        self.assertEqual((early.table_rows("t"), late.table_rows("t")), ([(1, "x"), (2, "y")], [(2, "y"), (3, "z")]))
        self.assertEqual((early.row("t", key(1)), late.row("t", key(1)), early.row("t", key(3)), late.row("t", key(3))),
            ((1, "x"), None, None, (3, "z")))
        self.assertEqual(early.keyed_rows("t"), [(key(1), (1, "x")), (key(2), (2, "y"))])
        self.assertEqual(early.primary_rows("t", key(1), key(2)), [(1, "x")])
        self.assertEqual(late.index_rows("t.0", key_of(("x",)), None), [(2, "y"), (3, "z")])
        self.assertEqual(early.index_rows("t.0", key_of(("x",)), None), [(1, "x"), (2, "y")])
        self.assertEqual((early.table_rows("u"), early.table_rows("u") is early.table_rows("u")), ([], False))

    def test_own_changes(self):
        engine = engine_with(*TABLES)
        committed(engine, "t", (), [(0, (1, "x")), (0, (2, "y")), (0, (3, "z"))])
        one, other = engine.begin(), engine.begin()
        one.change("t", [key(2), key(3)], [(0, (3, "w")), (0, (0, "y"))])
        self.assertEqual(one.table_rows("t"), [(0, "y"), (1, "x"), (3, "w")])
        self.assertEqual((one.row("t", key(2)), one.row("t", key(3))), (None, (3, "w")))
        self.assertEqual(one.primary_rows("t", key(1), key(3)), [(1, "x")])
        self.assertEqual(one.primary_rows("t", (), None), one.table_rows("t"))
        self.assertEqual(one.index_rows("t.0", key_of(("x",)), upper_key(key_of(("y",)))), [(0, "y"), (1, "x")])
        self.assertEqual(one.index_rows("t.0", key_of(("z",)), None), [])
        self.assertEqual(other.table_rows("t"), [(1, "x"), (2, "y"), (3, "z")])
        self.assertEqual({name: sorted(rows) for name, rows in one.own.items()}, {"t": [key(0), key(2), key(3)]})
        self.assertEqual(engine.begin().table_rows("t"), [(1, "x"), (2, "y"), (3, "z")])

    def test_unknown_tables_and_indexes(self):
        transaction = engine_with(*TABLES).begin()
        for read in (transaction.keyed_rows, transaction.table_rows):
            self.assertRaises(NameFault, read, "v")
        for name in ("v", "t.0"):
            self.assertRaises(NameFault, transaction.primary_rows, name, (), None)
            self.assertRaises(NameFault, transaction.row, name, key(1))
            self.assertRaises(NameFault, transaction.change, name, (), ())
        for name in ("t", "t.1", ""):
            self.assertRaises(NameFault, transaction.index_rows, name, (), None)
        self.assertRaises(NameFault, transaction.engine.next_number, "v")
        self.assertEqual(list(transaction.read), [])

    def test_what_is_read(self):
        engine = engine_with(*TABLES)
        for read in (
            lambda one: one.table_rows("t"), lambda one: one.keyed_rows("t"),
            lambda one: one.primary_rows("t", key(1), key(1)),
            lambda one: one.index_rows("t.0", (), None), lambda one: one.row("t", key(1)),
            lambda one: put(one, (77, "q")),
        ):
            transaction = engine.begin()
            read(transaction)
            self.assertEqual(list(transaction.read), ["t"])
            engine.rollback(transaction)

    def test_drawn_transactions(self):
        for seed in range(20):
            chance = random.Random(seed)
            engine = engine_with("create table t (a int, b int, primary key (a))", "create table u (a int, b int)",
                size=200, capacity=chance.choice((1, 3)))
            engine.define(lambda store: [store.create_index(index) for index in indexes_of_both()])
            held = {"t": {}, "u": {}}
            opened = []
            for _ in range(60):
                if not opened or chance.random() < 0.3:
                    opened.append((engine.begin(), {name: dict(rows) for name, rows in held.items()}))
                transaction, seen = chance.choice(opened)
                draw = chance.random()
                if draw < 0.6:
                    self.change(chance, engine, transaction, seen)
                elif draw < 0.8:
                    opened = [pair for pair in opened if pair[0] is not transaction]
                    conflicts = engine.conflicts(transaction)
                    if transaction.own == {}:
                        self.assertEqual(engine.commit(transaction), transaction.stamp)
                    elif conflicts:
                        self.assertRaises(ConflictFault, engine.commit, transaction)
                    else:
                        self.assertEqual(engine.commit(transaction), engine.stamp)
                        for name in transaction.own:
                            held[name] = seen[name]
                else:
                    engine.vacuum()
                for one, rows in opened:
                    self.check(one, rows)
            for one, _ in opened:
                engine.rollback(one)
            engine.vacuum()
            self.check(engine.begin(), held)
            engine.check()

    def change(self, chance, engine, transaction, seen):
        name = chance.choice("tu")
        gone = [one for one in seen[name] if chance.random() < 0.3]
        rows = [(engine.next_number("u") if name == "u" else 0,
            (chance.randrange(6), chance.choice((None, 1, 2)))) for _ in range(chance.randrange(3))]
        keys = [key(row[0]) if name == "t" else key(number) for number, row in rows]
        left = [one for one in seen[name] if one not in gone]
        if len(set(keys)) < len(keys) or any(one in left for one in keys):
            self.assertRaises(ConstraintFault, transaction.change, name, gone, rows)
            return
        transaction.change(name, gone, rows)
        for one in gone:
            del seen[name][one]
        seen[name].update(zip(keys, [row for number, row in rows]))

    def check(self, transaction, seen):
        for name, index in (("t", "t_b"), ("u", "u_b")):
            rows = sorted(seen[name].items())
            self.assertEqual(transaction.keyed_rows(name), rows)
            for value in (None, 1, 2, 3):
                low = key_of((value,))
                self.assertEqual(transaction.index_rows(index, low, upper_key(low)),
                    [row for one, row in rows if row[1] == value])
            self.assertEqual(transaction.primary_rows(name, key(2), key(4)),
                [row for one, row in rows if key(2) <= one < key(4)])
            for one in (key(2), key(5)):
                self.assertEqual(transaction.row(name, one), seen[name].get(one))


def indexes_of_both():
    from tablestack.schema import Index
    return (Index("t_b", "t", False, (1,)), Index("u_b", "u", False, (1,)))


class ChangeTest(unittest.TestCase):
    def setUp(self):
        self.engine = engine_with(*TABLES)
        committed(self.engine, "t", (), [(0, (1, "x")), (0, (2, "y")), (0, (3, None)), (0, (4, None))])
        self.one = self.engine.begin()

    def refuse(self, gone, rows):
        before = (self.one.table_rows("t"), {name: dict(rows) for name, rows in self.one.own.items()})
        with self.assertRaises(ConstraintFault):
            self.one.change("t", gone, [(0, row) for row in rows])
        self.assertEqual((self.one.table_rows("t"), self.one.own), before)

    def test_keys(self):
        for gone, rows in (
            ((), [(1, "q")]), ((), [(9, "q"), (9, "r")]), ([key(1)], [(2, "q")]), ([key(1)], [(1, "x"), (1, "q")]),
            ((), [(7, "q"), (4, "r")]),
        ):
            self.refuse(gone, rows)
        self.one.change("t", [key(1), key(2)], [(0, (2, "x")), (0, (1, "y"))])
        self.assertEqual(self.one.table_rows("t")[:2], [(1, "y"), (2, "x")])
        self.refuse((), [(2, "q")])
        self.one.change("t", [key(2)], [])
        put(self.one, (2, "q"))

    def test_unique_columns(self):
        for gone, rows in (
            ((), [(9, "x")]), ((), [(9, "q"), (8, "q")]), ([key(1)], [(9, "y")]), ([key(3)], [(3, "x")]),
            ([key(1), key(2)], [(1, "x"), (2, "x")]),
        ):
            self.refuse(gone, rows)
        put(self.one, (9, None), (8, None))
        self.one.change("t", [key(1), key(2)], [(0, (1, "y")), (0, (2, "x"))])
        self.refuse((), [(7, "x")])
        self.one.change("t", [key(2)], [(0, (7, "x"))])
        self.refuse((), [(6, "x")])
        self.one.change("t", [key(7)], [])
        put(self.one, (6, "x"))
        self.one.change("t", [key(6)], [(0, (6, "x"))])
        self.refuse([key(1)], [(5, "x")])
        self.engine.commit(self.one)
        self.engine.check()

    def test_sizes(self):
        # A cell has 97 bytes: 4, a key of 9 bytes, a stamp of 8, and a record of 3 + 2 beside the characters.
        text = "x" * 84
        for many, fine in ((84 - 13, True), (84 - 12, False)):
            row = (9, text[:many])
            if fine:
                put(self.one, row)
                self.one.change("t", [key(9)], [])
            else:
                self.refuse((), [row])

    def test_sizes_of_index_keys(self):
        # A cell has 47 bytes: 4, two integers of 9 bytes, the text's characters and 2, and 9 for the row's key.
        engine = engine_with("create table t (a int, b int, c int, d text, primary key (a), unique (b, c, d))",
            size=200)
        transaction = engine.begin()
        self.assertRaises(ConstraintFault, transaction.change, "t", (), [(0, (1, 2, 3, "x" * 15))])
        transaction.change("t", (), [(0, (1, 2, 3, "x" * 14))])
        self.assertEqual(engine.commit(transaction), 2)
        engine.check()

    def test_rows_without_a_key(self):
        engine = engine_with(TEXT.format(""))
        one, other = engine.begin(), engine.begin()
        numbers = [engine.next_number("t") for _ in range(3)]
        self.assertEqual(len(set(numbers)), 3)
        one.change("t", (), [(number, (1, "x", None)) for number in numbers[:2]])
        self.assertEqual(one.table_rows("t"), [(1, "x", None)] * 2)
        self.assertRaises(ConstraintFault, one.change, "t", (), [(numbers[0], (1, "x", None))])
        other.change("t", (), [(numbers[2], (2, "y", 0))])
        engine.commit(one)
        self.assertRaises(ConflictFault, engine.commit, other)
        again = open_engine(engine.pager.disk.restarted((), 0))
        self.assertNotIn(again.next_number("t"), numbers[:2])
        committed(engine, "t", [key(numbers[0])], [(numbers[0], (5, "z", 1))])
        self.assertEqual(engine.begin().table_rows("t"), [(5, "z", 1), (1, "x", None)])

    def test_numbers_of_rows_that_were_put_otherwise(self):
        engine = engine_with(TEXT.format(""))
        committed(engine, "t", (), [(500, (1, "x", None))])
        self.assertGreater(engine.next_number("t"), 500)


class CommitTest(unittest.TestCase):
    def setUp(self):
        self.engine = engine_with(*TABLES)
        committed(self.engine, "t", (), [(0, (1, "x"))])

    def test_stamps(self):
        engine = self.engine
        self.assertEqual((engine.stamp, engine.pager.last_stamp()), (2, 2))
        idle = engine.begin()
        idle.table_rows("t")
        self.assertEqual((engine.commit(idle), engine.stamp), (2, 2))
        self.assertEqual((committed(engine, "u", (), [(1, (1, 1))]), engine.stamp), (3, 3))
        self.assertEqual((committed(engine, "u", (), ()), engine.stamp), (3, 3))
        engine.rollback(engine.begin())
        engine.define(lambda store: store.create_view("v", "select a from t"))
        self.assertEqual((engine.stamp, engine.pager.last_stamp()), (4, 4))
        engine.vacuum()
        engine.checkpoint()
        self.assertEqual((engine.stamp, engine.pager.last_stamp()), (5, 5))
        again = open_engine(engine.pager.disk.restarted((), 0))
        self.assertEqual((again.stamp, again.begin().stamp, again.active[0].stamp), (5, 5, 5))
        self.assertEqual(engine.changed, {"t": 2, "u": 3})

    def test_conflicts(self):
        engine = self.engine
        for read, names in (
            (lambda one: put(one, (5, "q")), ["t"]), (lambda one: [one.table_rows("t"), one.change("u", (), [(9, (1,
                1))])], ["t"]),
            (lambda one: one.table_rows("t"), ["t"]), (lambda one: one.table_rows("u"), []),
            (lambda one: one.change("u", (), [(8, (1, 1))]), []),
            (lambda one: [one.table_rows("u"), one.row("t", key(1))], ["t"]),
        ):
            one = engine.begin()
            read(one)
            self.assertEqual(engine.conflicts(one), [])
            stamp = committed(engine, "t", [key(1)], [(0, (1, "x"))])
            self.assertEqual(engine.conflicts(one), names)
            if names and one.own != {}:
                self.assertRaises(ConflictFault, engine.commit, one)
                self.assertEqual((engine.stamp, engine.active), (stamp, []))
                self.assertRaises(StateFault, engine.commit, one)
            else:
                engine.commit(one)

    def test_conflicts_in_order(self):
        engine = self.engine
        one = engine.begin()
        one.table_rows("u")
        one.table_rows("t")
        committed(engine, "u", (), [(1, (1, 1))])
        committed(engine, "t", [key(1)], [])
        self.assertEqual(engine.conflicts(one), ["t", "u"])
        self.assertEqual(engine.conflicts(engine.begin()), [])

    def test_put_and_dropped_again(self):
        engine = self.engine
        one, other = engine.begin(), engine.begin()
        put(one, (7, "q"))
        one.change("t", [key(7)], [])
        self.assertEqual(one.table_rows("t"), [(1, "x")])
        put(other, (8, "r"))
        self.assertEqual(engine.commit(one), 3)
        self.assertRaises(ConflictFault, engine.commit, other)
        self.assertEqual((engine.begin().table_rows("t"), engine.changed["t"]), ([(1, "x")], 3))
        engine.check()

    def test_dropped_and_put_again(self):
        engine = self.engine
        one = engine.begin()
        one.change("t", [key(1)], [])
        put(one, (1, "z"))
        early = engine.begin()
        self.assertEqual(engine.commit(one), 3)
        self.assertEqual((early.table_rows("t"), engine.begin().table_rows("t")), ([(1, "x")], [(1, "z")]))

    def test_a_change_of_no_rows(self):
        engine = self.engine
        one = engine.begin()
        one.change("t", (), ())
        committed(engine, "t", [key(1)], [])
        self.assertEqual((one.own, engine.commit(one)), ({}, 2))

    def test_ended_transactions(self):
        engine = self.engine
        for end in (engine.commit, engine.rollback):
            for first in (engine.commit, engine.rollback):
                one = engine.begin()
                put(one, (50 + len(engine.pager.disk.log), None))
                self.assertEqual(engine.active, [one])
                first(one)
                self.assertEqual(engine.active, [])
                self.assertRaises(StateFault, end, one)
        self.assertRaises(StateFault, engine.commit, Transaction(engine, 1))

    def test_rollback(self):
        engine = self.engine
        one, other = engine.begin(), engine.begin()
        put(one, (7, "q"))
        steps = engine.pager.disk.steps
        engine.rollback(one)
        self.assertEqual((engine.stamp, engine.active, engine.pager.disk.steps), (2, [other], steps))
        self.assertEqual(engine.begin().table_rows("t"), [(1, "x")])

    def test_one_row_has_one_version_for_each_commit(self):
        engine = self.engine
        for number in range(3):
            one = engine.begin()
            one.change("t", [key(1)], [(0, (1, f"x{number}"))])
            one.change("t", [key(1)], [(0, (1, f"y{number}"))])
            engine.commit(one)
        stamps = [split_version(one)[1] for one, value in engine.store.stores["t"].tree.scan()]
        self.assertEqual(stamps, [5, 4, 3, 2])


class CatalogTest(unittest.TestCase):
    def test_changes_of_the_catalog(self):
        engine = engine_with(*TABLES)
        one = engine.begin()
        before = engine.store.catalog.shown()
        self.assertRaises(StateFault, engine.define, lambda store: store.drop_table("u"))
        self.assertEqual((engine.stamp, engine.store.catalog.shown()), (1, before))
        engine.commit(one)
        engine.define(lambda store: store.drop_table("u"))
        self.assertEqual((engine.stamp, sorted(engine.store.stores)), (2, ["t"]))
        self.assertEqual(sorted(open_engine(engine.pager.disk.restarted((), 0)).store.stores), ["t"])
        engine.check()

    def test_a_change_that_fails_changes_nothing(self):
        engine = engine_with(*TABLES)
        log, shown, used = engine.pager.disk.log, engine.store.catalog.shown(), engine.check()

        def change(store):
            store.create_view("v", "select a from t")
            store.drop_table("u")
            store.create_view("t", "select 1")

        self.assertRaises(NameFault, engine.define, change)
        self.assertEqual((engine.stamp, engine.store.catalog.shown(), engine.check(), engine.pager.disk.log),
            (1, shown, used, log))
        committed(engine, "u", (), [(1, (1, 1))])
        engine.check()

    def test_views_of_any_tuples(self):
        engine = open_engine(Disk(256))
        for many, query in enumerate((("query",), (), ("a", (None, True, (-5, "x"))), parse("select 1"), "select 1"), 1):
            engine.define(lambda store: store.create_view(f"w{many}", query))
            self.assertEqual((engine.stamp, engine.store.catalog.views[f"w{many}"]), (many, query))
            engine.check()
        again = open_engine(engine.pager.disk.restarted((), 0))
        self.assertEqual((again.store.catalog.shown(), again.stamp), (engine.store.catalog.shown(), 5))
        engine.define(lambda store: store.drop_view("w1"))
        one = engine.begin()
        self.assertRaises(StateFault, engine.define, lambda store: store.create_view("w1", ("query",)))
        self.assertNotIn("w1", engine.store.catalog.views)
        engine.rollback(one)
        again.check()

    def test_faults_at_each_step(self):
        engine = engine_with(*TABLES, size=200, capacity=4)
        committed(engine, "t", (), [(0, (number, f"x{number}")) for number in range(30)])
        committed(engine, "t", [key(number) for number in range(0, 30, 3)], ())
        one = engine.begin()
        one.change("t", [key(1)], [(0, (number, f"y{number}")) for number in range(40, 45)])

        def change(store):
            """Change the catalog in several ways."""
            store.create_view("w", ("query",))
            store.drop_table("u")
            table, indexes = declared_table(parse("create table n (a int, unique (a))"))
            store.create_table(table, indexes)

        def state():
            """Return all that the engine has."""
            return (engine.stamp, list(engine.active), engine.pager.disk.log, store_state(engine.store))

        for carry_out in (lambda: engine.commit(one), engine.vacuum, lambda: engine.define(change)):
            stamp = engine.stamp
            self.assertGreater(check_each_fault(self, engine.pager.pool, state, carry_out), 5)
            self.assertEqual((engine.stamp, engine.active), (stamp + 1, []))
            engine.check()
        again = open_engine(engine.pager.disk.restarted((), 0))
        self.assertEqual((again.store.catalog.shown(), again.begin().table_rows("t")),
            (engine.store.catalog.shown(), engine.begin().table_rows("t")))
        self.assertEqual((sorted(again.store.stores), len(again.begin().table_rows("t"))), (["n", "t"], 24))

    def test_what_fails_leaves_the_open_group(self):
        engine = engine_with(*TABLES)
        store = engine.store
        store.create_view("w", ("query",))
        before = store_state(store)
        self.assertRaises(NameFault, engine.define, lambda one: [one.drop_table("u"), one.create_view("w", ())])
        self.assertEqual((engine.store, store_state(store)), (store, before))
        engine.check()

    def test_a_change_that_crashes(self):
        for fuse in (0, 1):
            engine = engine_with(*TABLES)
            before = store_state(engine.store)
            engine.pager.disk.arm(fuse)
            self.assertRaises(DiskFault, engine.define, lambda store: store.drop_table("u"))
            self.assertEqual((engine.stamp, store_state(engine.store)), (1, before))

    def test_crashes(self):
        engine = engine_with(*TABLES)
        one = engine.begin()
        put(one, (1, "x"))
        engine.pager.disk.arm(0)
        self.assertRaises(DiskFault, engine.commit, one)
        self.assertRaises(DiskFault, engine.vacuum)
        self.assertEqual(open_engine(engine.pager.disk.restarted((), 0)).begin().table_rows("t"), [])


class VacuumTest(unittest.TestCase):
    def test_what_open_transactions_see_is_kept(self):
        engine = engine_with(*TABLES)
        committed(engine, "t", (), [(0, (1, "a"))])
        old = engine.begin()
        for text in "bc":
            committed(engine, "t", [key(1)], [(0, (1, text))])
        middle = engine.begin()
        committed(engine, "t", [key(1)], [])
        self.assertEqual((engine.oldest(), engine.vacuum(), old.table_rows("t"), middle.table_rows("t")),
            (2, 0, [(1, "a")], [(1, "c")]))
        engine.rollback(old)
        self.assertEqual((engine.oldest(), engine.vacuum(), middle.table_rows("t")), (4, 2, [(1, "c")]))
        engine.commit(middle)
        self.assertEqual((engine.oldest(), engine.vacuum(), engine.begin().table_rows("t")), (engine.stamp - 1, 2, []))
        self.assertEqual(engine.store.stores["t"].tree.scan(), [])
        engine.check()

    def test_vacuums_conflict_with_nothing(self):
        engine = engine_with(*TABLES)
        one = engine.begin()
        put(one, (1, "a"))
        engine.vacuum()
        self.assertEqual((engine.conflicts(one), engine.commit(one), engine.stamp), ([], 3, 3))

    def test_pages_in_use(self):
        engine = engine_with(*TABLES, size=200)
        self.assertEqual(engine.check(), engine.pager.page_count())
        committed(engine, "u", (), [(number, (number, number)) for number in range(200)])
        committed(engine, "u", [key(number) for number in range(200)], ())
        engine.vacuum()
        self.assertEqual(engine.check(), engine.pager.page_count() - len(engine.pager.free_pages()))
        self.assertGreater(len(engine.pager.free_pages()), 10)

    def test_checkpoints(self):
        engine = engine_with(*TABLES)
        committed(engine, "t", (), [(0, (1, "a"))])
        engine.checkpoint()
        self.assertEqual((engine.pager.disk.log, engine.pager.groups), ((), 0))
        self.assertEqual(open_engine(engine.pager.disk).begin().table_rows("t"), [(1, "a")])


class CountTest(unittest.TestCase):
    def test_numbers_of_rows(self):
        for seed in range(10):
            chance = random.Random(seed)
            engine = engine_with("create table t (a int, b int, primary key (a))")
            opened = [engine.begin()]
            for _ in range(60):
                one = chance.choice(opened)
                self.assertEqual(one.row_count("t"), len(one.table_rows("t")) if chance.random() < 0.2
                    else len(Transaction.table_rows(one, "t")))
                number = chance.randrange(9)
                if one.row("t", key(number)) is None:
                    one.change("t", (), [(0, (number, 1))])
                else:
                    one.change("t", [key(number)], ())
                if chance.random() < 0.5:
                    opened.remove(one)
                    try:
                        engine.commit(one)
                    except ConflictFault:
                        pass
                    opened.append(engine.begin())
                    self.assertEqual(opened[-1].row_count("t"), len(engine.store.stores["t"].rows_at(engine.stamp)))
                if chance.random() < 0.1:
                    engine.vacuum()
                if chance.random() < 0.3:
                    opened.append(engine.begin())
            self.assertRaises(NameFault, opened[0].row_count, "u")

    def test_counts_are_not_taken_over_by_another_table(self):
        engine = engine_with("create table t (a int, primary key (a))")
        committed(engine, "t", (), [(0, (1,))])
        one = engine.begin()
        self.assertEqual(one.row_count("t"), 1)
        engine.rollback(one)
        engine.define(lambda store: store.drop_table("t"))
        table = engine_with("create table t (a int, primary key (a))").store.catalog.tables["t"]
        engine.define(lambda store: store.create_table(table, ()))
        self.assertEqual(engine.begin().row_count("t"), 0)

    def test_a_store_is_read_anew(self):
        engine = Engine(format_disk(Disk(96)))
        self.assertIsInstance(engine.store, Store)


if __name__ == "__main__":
    unittest.main()
