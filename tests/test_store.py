"""Points 17 and 19 and the store: versions of rows, what is seen at a stamp, vacuums, indexes, and the catalog."""

import random
import unittest

from tablestack.codec import fixed, key_of, record_of, upper_key
from tablestack.disk import Disk
from tablestack.errors import ConstraintFault, NameFault, TreeFault
from tablestack.pager import format_disk
from tablestack.pages import LEAF, Page
from tablestack.parser import parse
from tablestack.schema import Index, declared_table
from tablestack.store import Store, TableStore, check_indexes, split_version, version_key
from tests.databases import made_anew, store_with

TEXT = "create table t (a int, b text, c int{})"
KEYS = {"": (), ", primary key (a)": (0,), ", primary key (c, a)": (2, 0), ", primary key (b)": (1,)}


class VersionTest(unittest.TestCase):
    def test_version_keys(self):
        for row_key in ((2, 5), key_of(("a", 1)), ()):
            for stamp in (0, 1, 2, 255, 256, 70000, 2 ** 61, 2 ** 62):
                key = version_key(row_key, stamp)
                self.assertEqual(key, (*row_key, *fixed(2 ** 62 - stamp, 8)))
                self.assertEqual(split_version(key), (row_key, stamp))
                self.assertGreater(version_key(row_key, stamp - 1), key)

    def test_row_keys(self):
        for rule, places in KEYS.items():
            table = store_with(TEXT.format(rule)).stores["t"]
            row = (5, "x", -3)
            wanted = key_of((9,)) if places == () else key_of([row[place] for place in places])
            self.assertEqual(table.row_key(row, 9), wanted)

    def test_numbers(self):
        table = store_with(TEXT.format("")).stores["t"]
        first = table.next_number()
        self.assertIsInstance(first, int)
        for number in (first, 5, 3, 700, 256):
            table.write(key_of((number,)), (1, "a", None), 1)
        self.assertEqual(table.next_number(), 701)
        table.write(key_of((700,)), None, 2)
        self.assertEqual(table.next_number(), 701)
        table.vacuum(2)
        self.assertEqual(table.next_number(), 257)


class RowsTest(unittest.TestCase):
    def test_rows_at_each_stamp(self):
        for rule in KEYS:
            store = store_with(TEXT.format(rule))
            table = store.stores["t"]
            key = table.row_key((1, "a", 2), 7)
            self.assertEqual((table.rows_at(9), table.visible(key, 9)), ([], None))
            table.write(key, (1, "a", 2), 3)
            table.write(key, None, 5)
            table.write(key, (1, "a", 2), 6)
            for stamp, row in ((0, None), (2, None), (3, (1, "a", 2)), (4, (1, "a", 2)), (5, None), (6, (1, "a", 2)),
                (99, (1, "a", 2))):
                self.assertEqual(table.visible(key, stamp), row, (rule, stamp))
                self.assertEqual(table.rows_at(stamp), [] if row is None else [(key, row)])
            self.assertIsNone(table.visible(table.row_key((2, "b", 1), 8), 99))
            self.assertEqual(made_anew(store).stores["t"].rows_at(5), [])

    def test_keys_of_null_and_of_texts_that_begin_others(self):
        table = store_with("create table t (a text, b text)", size=200).stores["t"]
        index = Index("i", "t", False, (0, 1))
        values = [(one, other) for one in (None, "", "a", "aa", "b") for other in (None, "", "a", "\n", "~")]
        keys = [table.index_key(index, row) for row in values]
        self.assertEqual(sorted(keys), keys[:2] + [keys[3], keys[2], keys[4]] + [
            key for start in range(5, 25, 5) for key in (keys[start], keys[start + 1], keys[start + 3], keys[start + 2],
                keys[start + 4])])
        self.assertEqual(keys[7], key_of(("", "a")))

    def test_ranges_of_rows(self):
        table = store_with("create table t (a text, b int, primary key (b, a))", size=200).stores["t"]
        rows = [(one, other) for one in ("", "x", "xy") for other in (-1, 0, 1)]
        for row in rows:
            table.write(table.row_key(row, 0), row, 1)
        keyed = sorted((table.row_key(row, 0), row) for row in rows)
        keys = [key for key, row in keyed]
        self.assertEqual(table.rows_at(1), keyed)
        bounds = [(), *keys, upper_key(keys[3]), key_of((0,)), key_of((1,)), upper_key(key_of((0,))), (*keys[4], 0),
                  (*keys[4], 100), (*keys[0], 63), (9,)]
        for low in bounds:
            for high in [*bounds, None]:
                wanted = [(key, row) for key, row in keyed if low <= key and (high is None or key < high)]
                self.assertEqual(table.rows_between(low, high, 1), wanted, (low, high))
                self.assertEqual(table.rows_between(low, high, 0), [])

    def test_indexes(self):
        store = store_with(TEXT.format(", primary key (a), unique (c, b)"))
        table = store.stores["t"]
        index, tree = table.indexes["t.0"]
        self.assertEqual((index.shown(), index.unique), (("t.0", "t", True, (2, 1)), True))
        rows = [(1, "x", None), (2, None, 5), (3, "x", 5), (4, None, 5), (5, "xx", None)]
        for row in rows:
            table.write(table.row_key(row, 0), row, 1)
        self.assertEqual(len(tree.scan()), 5)
        for low, high, found in (
            ((), None, rows), (key_of((5,)), upper_key(key_of((5,))), rows[1:4]),
            (key_of((5, None)), upper_key(key_of((5, None))), [rows[1], rows[3]]),
            (key_of((None,)), upper_key(key_of((None,))), [rows[0], rows[4]]), (key_of((6,)), None, []),
            ((), key_of((5,)), [rows[0], rows[4]]),
            (key_of((5, "x")), upper_key(key_of((5, "x"))), [rows[2]]),
            (key_of((None, "x")), (*key_of((None, "xx")), 5), [rows[0], rows[4]]),
            (key_of((None, "xx")), key_of((None, "xx")), []),
        ):
            self.assertEqual([row for key, row in table.index_rows("t.0", low, high, 1)], found, (low, high))
            self.assertEqual(table.index_rows("t.0", low, high, 0), [])
        self.assertEqual(table.index_rows("t.0", (), None, 1), table.rows_at(1))
        check_indexes(table)
        check_indexes(store)

    def test_an_index_tells_rows_as_they_were(self):
        store = store_with("create table t (a int, b int, primary key (a), unique (b))")
        table = store.stores["t"]
        key = key_of((1,))
        for stamp, row in ((1, (1, 10)), (2, (1, 20)), (3, None), (4, (1, 10)), (5, (1, None)), (6, (1, 10))):
            table.write(key, row, stamp)
        for stamp, row in ((0, None), (1, (1, 10)), (2, (1, 20)), (3, None), (4, (1, 10)), (5, (1, None)),
            (6, (1, 10))):
            for value in (10, 20, None, 30):
                low = key_of((value,))
                wanted = [(key, row)] if row is not None and row[1] == value else []
                self.assertEqual(table.index_rows("t.0", low, upper_key(low), stamp), wanted, (stamp, value))
        self.assertEqual(len(table.indexes["t.0"][1].scan()), 3)
        check_indexes(store)
        table.indexes["t.0"][1].remove((*key_of((20,)), *key))
        self.assertRaises(TreeFault, check_indexes, table)
        self.assertRaises(TreeFault, check_indexes, store)
        self.assertRaises(TreeFault, store.check)

    def test_drawn_versions_against_a_table_of_stamps(self):
        for seed in range(25):
            chance = random.Random(seed)
            store = store_with(TEXT.format(chance.choice(list(KEYS)) + ", unique (b, c)"), size=300,
                capacity=chance.choice((1, 4)))
            table = store.stores["t"]
            seen = {0: {}}
            for stamp in range(1, 30):
                rows = dict(seen[stamp - 1])
                for _ in range(chance.randint(1, 3)):
                    row = (chance.randrange(5), chance.choice("xyz"), chance.choice((None, 0, 1)))
                    if table.table.primary == (2, 0) and row[2] is None:
                        continue
                    key = table.row_key(row, chance.randrange(9))
                    rows[key] = row if chance.random() < 0.7 else None
                for key in rows:
                    if rows[key] != seen[stamp - 1].get(key):
                        table.write(key, rows[key], stamp)
                seen[stamp] = {key: row for key, row in rows.items() if row is not None}
            oldest = chance.randrange(30)
            self.check_stamps(table, seen, range(30))
            many = len(table.tree.scan())
            dropped = table.vacuum(oldest)
            self.assertEqual(len(table.tree.scan()), many - dropped)
            self.check_stamps(table, seen, range(oldest, 30))
            self.check_kept(table, oldest)
            check_indexes(table)
            table.tree.check()
            self.assertEqual(table.vacuum(oldest), 0)
            store.check()

    def check_stamps(self, table, seen, stamps):
        for stamp in stamps:
            self.assertEqual(table.rows_at(stamp), sorted(seen[stamp].items()))
            for text in "xyz":
                low = key_of((text,))
                wanted = [(key, row) for key, row in sorted(seen[stamp].items()) if row[1] == text]
                self.assertEqual(table.index_rows("t.0", low, upper_key(low), stamp), wanted)

    def check_kept(self, table, oldest):
        """Check that no version is held that nobody sees."""
        stamps = {}
        for key, value in table.tree.scan():
            row_key, stamp = split_version(key)
            stamps.setdefault(row_key, []).append((stamp, value))
        for versions in stamps.values():
            before = [value for stamp, value in versions if stamp <= oldest]
            self.assertLessEqual(len(before), 1)
            self.assertNotIn((), before)


class VacuumTest(unittest.TestCase):
    def test_each_stamp(self):
        for oldest, kept in ((0, (2, 4, 6, 8)), (1, (2, 4, 6, 8)), (2, (2, 4, 6, 8)), (3, (2, 4, 6, 8)), (4, (6, 8)),
            (5, (6, 8)),
                             (6, (6, 8)), (7, (6, 8)), (8, (8,)), (99, (8,))):
            table = store_with("create table t (a int, b int, primary key (a), unique (b))").stores["t"]
            for stamp, row in ((2, (1, 1)), (4, None), (6, (1, 2)), (8, (1, 1))):
                table.write(key_of((1,)), row, stamp)
            dropped = table.vacuum(oldest)
            self.assertEqual((tuple(split_version(key)[1] for key, value in table.tree.scan())[::-1], dropped),
                (kept, 4 - len(kept)), oldest)
            check_indexes(table)

    def test_rows_that_are_gone(self):
        table = store_with("create table t (a int, b int, primary key (a), unique (b))").stores["t"]
        for number in range(30):
            table.write(key_of((number,)), (number, number), 1)
        for number in range(0, 30, 2):
            table.write(key_of((number,)), None, 2)
        self.assertEqual((table.vacuum(1), table.vacuum(0)), (0, 0))
        self.assertEqual((table.vacuum(2), len(table.tree.scan()), len(table.indexes["t.0"][1].scan())), (30, 15, 15))
        self.assertEqual([row for key, row in table.rows_at(2)], [(number, number) for number in range(1, 30, 2)])
        for number in range(1, 30, 2):
            table.write(key_of((number,)), None, 3)
        self.assertEqual((table.vacuum(3), table.tree.scan(), table.indexes["t.0"][1].scan()), (30, [], []))


class CatalogTest(unittest.TestCase):
    def test_new_stores(self):
        store = Store(format_disk(Disk(96)))
        self.assertEqual((store.catalog.shown(), store.stores, store.catalog_tree.root, store.check()),
            (((), (), ()), {}, 1, 2))
        self.assertEqual(store.catalog_tree.pager, store.pager)

    def test_what_comes_back(self):
        store = store_with(
            "create table t (a int not null, b text default 'it''s\n', c int default -5, primary key (c, a), unique (b), unique (a, b), "
            "check (a > 0 or b like '*x'), foreign key (a, c) references t (c, a))", "create table u (d text)",
            size=150)
        query = parse("select a, 'x' as b from t where b is not null order by 1 desc limit 3")
        store.create_view("v", query)
        store.create_view("w", "select d from u")
        store.create_index(Index("i", "u", False, (0,)))
        for again in (Store(store.pager), made_anew(store)):
            self.assertEqual(again.catalog.shown(), store.catalog.shown())
            self.assertEqual(sorted(again.stores), ["t", "u"])
            self.assertEqual(sorted(again.stores["t"].indexes), ["t.0", "t.1"])
            self.assertEqual({name: one.tree.root for name, one in again.stores.items()},
                {name: one.tree.root for name, one in store.stores.items()})
            self.assertEqual(again.catalog.tables["t"].references, (((0, 2), "t", (2, 0)),))
        self.assertEqual(store.catalog.views, {"v": query, "w": "select d from u"})

    def test_names_that_are_there(self):
        store = store_with("create table t (a int)")
        store.create_view("v", parse("select a from t"))
        table, _ = declared_table(parse("create table t (b int)"))
        other, _ = declared_table(parse("create table v (b int)"))
        self.assertRaises(NameFault, store.create_table, table, ())
        self.assertRaises(NameFault, store.create_table, other, ())
        for name in ("t", "v"):
            self.assertRaises(NameFault, store.create_view, name, parse("select a from t"))
        self.assertEqual(store.catalog.shown(), Store(store.pager).catalog.shown())

    def test_keys_of_the_catalog(self):
        for size in (96, 130, 300):
            store = store_with("create table t (a int, b text default 'abc', unique (b))", size=size)
            store.create_view("w", parse("select a from t where b = 'some long text' or a in (1, 2, 3, 4, 5, 6, 7, 8)"))
            cells = store.catalog_tree.scan()
            for text in ("tt", "it.0", "vw"):
                key = key_of((text,))
                own = [one for one, value in cells if one[:len(key)] == key]
                self.assertEqual(own, [(*key, *fixed(number, 2)) for number in range(len(own))])
                room = store.catalog_tree.room() - len(key) - 10
                self.assertTrue(len(own) > 1 or room > 50)
            self.assertEqual(len(cells), sum(1 for one, value in cells if one[0] == 3))

    def test_names_that_are_too_long(self):
        for size in (96, 100, 120, 200):
            most = (size - 11) // 4 - 10 - 4 - 3
            for many in (most, most + 1):
                name = "n" * many
                plain = store_with(size=size)
                table, indexes = declared_table(parse(f"create table {name} (a int)"))
                keyed, own = declared_table(parse(f"create table {name[2:]} (a int, unique (a))"))
                for make, arguments in (
                    (plain.create_table, (table, indexes)), (plain.create_table, (keyed, own)),
                    (plain.create_view, (name + "", parse("select 1"))),
                ):
                    store = store_with(size=size)
                    make = getattr(store, make.__name__)
                    if many == most:
                        make(*arguments)
                        self.assertEqual(made_anew(store).catalog.shown(), store.catalog.shown())
                    else:
                        self.assertRaises(ConstraintFault, make, *arguments)

    def test_lost_and_shared_pages(self):
        store = store_with("create table t (a int, primary key (a))", "create table u (a int, unique (a))")
        self.assertEqual(store.check(), store.pager.page_count())
        number = store.pager.fresh(Page(LEAF, 0, ()))
        self.assertRaises(TreeFault, store.check)
        store.pager.free(number)
        self.assertEqual(store.check(), store.pager.page_count() - 1)
        store.stores["u"] = TableStore(store.stores["u"].table, store.stores["t"].tree, {})
        self.assertRaises(TreeFault, store.check)

    def test_damaged_trees(self):
        store = store_with("create table t (a int, primary key (a))")
        store.pager.put(store.stores["t"].tree.root, Page(LEAF, 0, [((5,), ()), ((4,), ())]))
        self.assertRaises(TreeFault, store.check)

    def test_dropped_tables_give_pages_back(self):
        store = store_with("create table t (a int, b int, primary key (a), unique (b))", size=96)
        before = store.catalog_tree.check()
        many = store.check()
        other, indexes = declared_table(parse("create table u (c text, d text, unique (d))"))
        store.create_table(other, indexes)
        store.create_view("v", parse("select c from u"))
        store.create_index(Index("i", "u", False, (0,)))
        store.drop_view("v")
        store.drop_table("u")
        self.assertEqual((store.check(), store.catalog_tree.check(), sorted(store.stores)), (many, before, ["t"]))
        self.assertEqual(Store(store.pager).catalog.shown(), store.catalog.shown())

    def test_indexes_over_rows_that_are_there(self):
        for unique in (True, False):
            store = store_with("create table t (a int, b int, c text, primary key (a))", size=200)
            table = store.stores["t"]
            for number in range(20):
                table.write(key_of((number,)), (number, number // 2, None), 1)
            table.write(key_of((3,)), (3, 99, None), 2)
            store.pager.commit(2)
            if unique:
                self.assertRaises(ConstraintFault, store.create_index, Index("i", "t", True, (1,)))
                store.pager.cancel()
                store = Store(store.pager)
                store.create_index(Index("j", "t", True, (2, 1)))
            store.create_index(Index("i", "t", False, (1,)))
            self.assertEqual([row[0] for key, row in store.stores["t"].index_rows("i", key_of((1,)),
                upper_key(key_of((1,))), 1)], [2, 3])
            self.assertEqual([row[0] for key, row in store.stores["t"].index_rows("i", key_of((1,)),
                upper_key(key_of((1,))), 2)], [2])
            store.check()

    def test_keys_that_do_not_fit_an_index(self):
        # A cell has 47 bytes, and an index's key here needs 4, the text's characters and 2, and 9 for the row's key.
        store = store_with("create table t (a int, b text, primary key (a))", size=200)
        table = store.stores["t"]
        self.assertTrue(table.fits(key_of((1,)), (1, "x" * 17)))
        self.assertFalse(table.fits(key_of((1,)), (1, "x" * 22)))
        text = "create table t (a int, b text, c text, d text, primary key (a, b))"
        store = store_with(text, size=200)
        table = store.stores["t"]
        row = (1, "abcdefg", "z", "")
        self.assertEqual(len(version_key(table.row_key(row, 0), 1)) + len(record_of(row)) + 4, 47)
        self.assertTrue(table.fits(table.row_key(row, 0), row))
        self.assertFalse(table.fits(table.row_key(row, 0), (1, "abcdefg", "z", "z")))
        table.write(table.row_key(row, 0), row, 1)
        store.pager.commit(1)
        self.assertRaises(ConstraintFault, store.create_index, Index("i", "t", False, (0, 1, 1, 0)))

    def test_old_versions_do_not_hinder_an_index(self):
        store = store_with("create table t (a text, b text, primary key (a))", size=96)
        table = store.stores["t"]
        table.write(key_of(("",)), ("", "ab"), 1)
        table.write(key_of(("",)), ("", "a"), 2)
        store.pager.commit(2)
        store.create_index(Index("i", "t", False, (1, 1, 1, 1)))
        self.assertEqual([row for key, row in store.stores["t"].index_rows("i", (), None, 2)], [("", "a")])
        store.check()


if __name__ == "__main__":
    unittest.main()
