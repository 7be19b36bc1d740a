"""Point 21 and inspection: reports on trees, kinds of pages, damaged and stale blocks, numbers of versions."""

import unittest

from tablestack.btree import Tree
from tablestack.disk import Disk
from tablestack.engine import open_engine
from tablestack.errors import NameFault, PageFault
from tablestack.inspect import (
    TreeReport, damaged, damaged_blocks, page_sorts, reports, stale_blocks, tree_report, version_count,
)
from tablestack.pager import format_disk
from tablestack.pages import INNER, LEAF, Page, page_bytes
from tests.databases import session_with

TABLES = ("create table t (a int, b text, primary key (a), unique (b))", "create table s (c int)",
    "create index a on t (b, a)")


class ReportTest(unittest.TestCase):
    def test_shown(self):
        self.assertEqual(TreeReport("t", 1, 2, 3, 4, 5).shown(), ("t", 1, 2, 3, 4, 5))

    def test_small_trees(self):
        tree = Tree(format_disk(Disk(96)), 1)
        self.assertEqual(tree_report("x", tree).shown(), ("x", 1, 1, 0, 0, 11))
        tree.put((1, 2), (3,))
        self.assertEqual(tree_report("", tree).shown(), ("", 1, 1, 0, 1, 18))

    def test_larger_trees(self):
        tree = Tree(format_disk(Disk(96)), 1)
        deepest = 0
        for number in range(400):
            tree.put((number // 256, number % 256, 0, 0), (1, 2))
            if number % 40 == 0:
                pages = [tree.pager.page(one) for one in tree.page_numbers()]
                report = tree_report("t", tree)
                kinds = [page.kind for page in pages]
                self.assertEqual(report.shown(), ("t", len(tree.path((1,))), kinds.count(LEAF), kinds.count(INNER),
                    number + 1, sum(page.size() for page in pages)))
                deepest = max(deepest, report.depth)
        self.assertGreater(deepest, 2)

    def test_reports_of_a_database(self):
        session = session_with(*TABLES, "insert into t values (1, 'x'), (2, 'y')", "update t set b = 'z' where a = 1",
            "insert into s values (5), (5), (5)")
        found = reports(session.engine)
        self.assertEqual([report.name for report in found], ["", "s", "t", "a", "t.0"])
        self.assertEqual([(report.depth, report.leaves, report.inner, report.entries) for report in found[1:]],
            [(1, 1, 0, 3), (1, 1, 0, 3), (1, 1, 0, 3), (1, 1, 0, 3)])
        self.assertEqual((found[0].entries, found[0].used), (session.engine.store.catalog_tree.check(), found[0].used))
        self.assertEqual([report.name for report in reports(session_with().engine)], [""])

    def test_kinds_of_pages(self):
        session = session_with(*TABLES, size=200)
        session.run("insert into t values " + ", ".join(f"({number}, 'x{number}')" for number in range(100)))
        engine = session.engine
        found = reports(engine)
        self.assertEqual(page_sorts(engine), {"meta": 1, "leaf": sum(one.leaves for one in found),
            "inner": sum(one.inner for one in found), "free": 0})
        session.run("delete from t")
        engine.vacuum()
        sorts = page_sorts(engine)
        self.assertEqual((sorts["free"], sum(sorts.values())),
            (len(engine.pager.free_pages()), engine.pager.page_count()))
        self.assertGreater(sorts["free"], 10)
        self.assertEqual(page_sorts(open_engine(Disk(96))), {"meta": 1, "leaf": 1, "inner": 0, "free": 0})


class BlockTest(unittest.TestCase):
    def test_damaged_bytes(self):
        data = page_bytes(Page(LEAF, 0, [((1,), (2,))]), 96)
        for one, is_damaged in (
            (data, False), (data[:-1], True), ((), True), ((0,) * 96, True), ((*data[:20], 1, *data[21:]), True),
            (page_bytes(Page(LEAF, 0, ()), 120), False), (page_bytes(Page(4, 7, ()), 96), False),
            (page_bytes(Page(9, 0, ()), 96), True),
        ):
            self.assertEqual(damaged(one), is_damaged)

    def test_damaged_blocks(self):
        data = page_bytes(Page(LEAF, 0, ()), 96)
        disk = Disk(96, {7: (0,) * 96, 2: data, 3: data[::-1], 0: data})
        self.assertEqual((damaged_blocks(disk), damaged_blocks(Disk(96))), ((3, 7), ()))
        disk.write_block(2, (5,) * 96)
        self.assertEqual(damaged_blocks(disk), (3, 7))
        disk.sync_blocks()
        self.assertEqual(damaged_blocks(disk), (2, 3, 7))

    def test_stale_blocks(self):
        session = session_with(*TABLES)
        engine = session.engine
        many = engine.pager.page_count()
        self.assertEqual(stale_blocks(engine), tuple(range(many)))
        engine.checkpoint()
        self.assertEqual(stale_blocks(engine), ())
        session.run("insert into s values (1)")
        self.assertEqual(stale_blocks(engine), (0, engine.store.stores["s"].tree.root))
        engine.checkpoint()
        disk = engine.pager.disk
        del disk.blocks[3]
        disk.blocks[4] = (7,) * 400
        disk.blocks[5] = page_bytes(Page(LEAF, 9, ()), 400)
        self.assertEqual((stale_blocks(engine), damaged_blocks(disk)), ((3, 4, 5), (4,)))
        self.assertIsInstance(stale_blocks(engine), tuple)

    def test_a_damaged_meta_page(self):
        session = session_with(*TABLES)
        session.engine.checkpoint()
        blocks = {**session.engine.pager.disk.blocks, 0: (1,) * 400}
        with self.assertRaises(PageFault):
            page_sorts(open_engine(Disk(400, blocks)))


class VersionTest(unittest.TestCase):
    def test_numbers(self):
        session = session_with(*TABLES)
        engine = session.engine
        for text, many in (
            ("insert into t values (1, 'x'), (2, 'y')", 2), ("update t set b = b", 4), ("delete from t where a = 1", 5),
            ("insert into t values (1, 'x')", 6), ("delete from t where a = 9", 6), ("begin", 6),
            ("insert into t values (3, 'z')", 6), ("delete from t where a = 2", 6), ("commit", 8),
        ):
            session.run(text)
            self.assertEqual(version_count(engine, "t"), many, text)
        self.assertEqual((engine.vacuum(), version_count(engine, "t"), version_count(engine, "s")), (6, 2, 0))
        for name in ("nobody", "t.0", "a"):
            self.assertRaises(NameFault, version_count, engine, name)


if __name__ == "__main__":
    unittest.main()
