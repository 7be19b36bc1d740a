"""Points 1, 17 and 19: what a store refuses changes nothing, whatever fault it is, and at whatever step."""

import unittest

from tablestack.codec import key_of, record_of
from tablestack.errors import ConstraintFault, NameFault, PageFault, TextError, TreeFault
from tablestack.pager import recover
from tablestack.parser import parse
from tablestack.schema import Column, Index, Table, declared_table
from tablestack.store import Store, version_key
from tests.databases import made_anew, store_with
from tests.faults import check_each_fault, store_state


def nested(many):
    """Return a tuple nested so many deep."""
    tree = ("null",)
    for _ in range(many - 1):
        tree = ("not", tree)
    return tree


class RefusedTest(unittest.TestCase):
    """Calls that raise a fault change nothing (point 1)."""

    def store(self, capacity=16):
        """Return a store with a table, indexes, a view and rows, all of which are committed."""
        store = store_with("create table p (a int, b text, primary key (a), unique (b))", size=171, capacity=capacity)
        store.create_index(Index("i", "p", False, (1, 0, 0)))
        store.create_view("v", parse("select a from p"))
        for number in range(20):
            store.stores["p"].write(key_of((number,)), (number, "x" * (number % 5) + "yz"[number % 2]), 1)
        store.pager.commit(1)
        return store

    def check_refused(self, store, fault, call, *arguments):
        catalog = store.catalog
        tables = (catalog.tables, catalog.indexes, catalog.views, store.stores, store.stores["p"].indexes)
        before = (store_state(store), store.check(), [dict(table) for table in tables])
        self.assertRaises(fault, call, *arguments)
        # What was taken of a store before is as it was, too.
        self.assertEqual((store_state(store), store.check(), [dict(table) for table in tables]), before)
        self.assertEqual(Store(store.pager).catalog.shown(), store.catalog.shown())

    def test_tables(self):
        store = self.store()
        table, indexes = declared_table(parse("create table n (a int, b int, unique (a), unique (b))"))
        column = Column("a", "text", False, None)
        for fault, other, own in (
            (NameFault, Table("p", [column], (), ()), ()), (NameFault, Table("v", [column], (), ()), ()),
            (NameFault, Table("p", [column], (), ()), indexes), (NameFault, table, [*indexes, indexes[0]]),
            (NameFault, table, [Index("i", "n", True, (0,))]),
            (NameFault, table, [indexes[0], Index("p.0", "n", True, (0,))]),
            (NameFault, table, [Index("j", "nobody", True, (0,))]),
            (TextError, Table("n", [Column("a", "text", False, "100%")], (), ()), ()),
            (TextError, Table("n", [column], (), [("cmp", "=", ("col", None, "a"), ("text", "%"))]), ()),
            (TextError, Table("n%", [column], (), ()), ()), (TextError, Table("n", [column], (), [nested(250)]), ()),
            (ConstraintFault, Table("n" * 90, [column], (), ()), ()),
            (ConstraintFault, table, [indexes[0], Index("j" * 90, "n", True, (0,))]),
        ):
            self.check_refused(store, fault, store.create_table, other, own)
        store.create_table(table, indexes)
        self.assertEqual(made_anew(store).catalog.shown(), store.catalog.shown())
        store.check()

    def test_views(self):
        store = self.store()
        for fault, name, query in (
            (NameFault, "p", ("query",)), (NameFault, "v", ("query",)), (NameFault, "v", "select 1"),
            (TextError, "w", parse("select 1 as a")[:1] + ("100%",)), (TextError, "w", "select '%'"),
            (TextError, "w%", ("query",)), (TextError, "w", nested(201)), (ConstraintFault, "w" * 90, ("query",)),
        ):
            self.check_refused(store, fault, store.create_view, name, query)

    def test_views_of_any_tuples(self):
        held = {"w0": ("query",), "w1": (), "w2": nested(199), "w3": ("a", (None, True, False, -5, ("'", "\n"))),
            "w4": "select 1"}
        store = self.store()
        for name, query in held.items():
            store.create_view(name, query)
        for one in (store, Store(store.pager), made_anew(store)):
            self.assertEqual({name: one.catalog.views[name] for name in held}, held)
            one.check()

    def test_indexes(self):
        store = self.store()
        for fault, index in (
            (NameFault, Index("i", "p", False, (0,))), (NameFault, Index("j", "nobody", False, (0,))),
            (NameFault, Index("p.0", "p", False, (0,))), (ConstraintFault, Index("j", "p", True, (1,))),
            (ConstraintFault, Index("j", "p", False, (0, 0, 0, 0))), (TextError, Index("j%", "p", False, (0,))),
            (ConstraintFault, Index("j" * 90, "p", False, (0,))),
        ):
            self.check_refused(store, fault, store.create_index, index)

    def test_rows_that_do_not_fit(self):
        # A cell has 40 bytes: a row's version needs 27 and the text's characters here, its key in i 33 and these.
        store = self.store()
        table = store.stores["p"]
        for many in (8, 13):
            self.assertTrue(table.tree.fits(version_key(key_of((77,)), 2), record_of((77, "a" * many))))
        for fault, text in ((TreeFault, "a" * 8), (TreeFault, "a" * 13), (TreeFault, "a" * 14), (TextError, "100%")):
            row = (77, text)
            self.check_refused(store, fault, table.write, key_of((77,)), row, 2)
            self.assertEqual((table.visible(key_of((77,)), 9), len(table.rows_at(9))), (None, 20))
        self.check_refused(store, TreeFault, table.write, (5,) * 30, None, 2)
        table.write(key_of((77,)), (77, "a" * 7), 2)
        self.assertEqual(len(table.rows_at(2)), 21)
        store.check()

    def test_a_row_that_replaces_another_one_at_a_stamp(self):
        store = self.store()
        table = store.stores["p"]
        table.write(key_of((7,)), (7, "q"), 2)
        self.check_refused(store, TreeFault, table.write, key_of((7,)), (7, "a" * 8), 2)
        self.assertEqual(table.visible(key_of((7,)), 2), (7, "q"))

    def test_faults_at_each_step(self):
        table, indexes = declared_table(parse("create table n (a int, b int, c text default 'abc', unique (a))"))
        for capacity in (2, 16):
            store = self.store(capacity)
            rows = store.stores["p"]
            for change in (
                lambda: store.create_table(table, indexes), lambda: store.create_view("w", parse("select b from p")),
                lambda: store.create_index(Index("j", "p", True, (0, 1))),
                lambda: rows.write(key_of((30,)), (30, "zz"), 2), lambda: rows.write(key_of((3,)), (3, "zz"), 2),
                lambda: rows.write(key_of((4,)), None, 2), lambda: rows.vacuum(2),
            ):
                steps = check_each_fault(self, store.pager.pool, lambda: store_state(store), change)
                self.assertGreater(steps, 2)
                store.check()
            self.assertEqual(sorted(store.catalog.indexes), ["i", "j", "n.0", "p.0"])
            self.assertEqual(made_anew(store).catalog.shown(), store.catalog.shown())

    def test_a_damaged_page_of_an_index(self):
        store = self.store()
        store.pager.checkpoint()
        disk = store.pager.disk
        root = store.stores["p"].indexes["p.0"][1].root
        disk.blocks[root] = (0,) * disk.block_size
        found = Store(recover(disk))
        table = found.stores["p"]
        self.assertRaises(PageFault, table.write, key_of((30,)), (30, "zz"), 2)
        self.assertEqual((len(table.rows_at(2)), found.pager.pool.open_group), (20, {}))


if __name__ == "__main__":
    unittest.main()
