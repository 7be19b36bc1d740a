"""Point 21 and dumps: a database as the statements that make it, and a standby that follows another database."""

import random
import unittest

from tablestack.disk import Disk
from tablestack.dump import (
    Standby, column_declaration, dump, index_declaration, insert_texts, restore, table_declaration, table_order,
    view_order,
)
from tablestack.engine import open_engine
from tablestack.errors import ConstraintFault, DiskFault, NameFault, StateFault, TextError
from tablestack.inspect import damaged_blocks
from tablestack.parser import parse
from tablestack.schema import Column
from tests.crashes import drawn_restart
from tests.databases import beside, held, session_with, values


class DeclarationTest(unittest.TestCase):
    def test_columns(self):
        for column, text in (
            (Column("a", "int", False, None), "a int"), (Column("a", "text", True, None), "a text not null"),
            (Column("a", "text", True, "x"), "a text not null default 'x'"),
            (Column("b_1", "int", False, -5), "b_1 int default -5"),
            (Column("b", "int", True, 0), "b int not null default 0"),
            (Column("c", "text", False, "it's\n"), "c text default 'it''s\n'"),
            (Column("c", "text", False, ""), "c text default ''"),
        ):
            self.assertEqual(column_declaration(column), text)

    def test_tables(self):
        for text in (
            "create table t (a int)",
            "create table t (a int, b text not null default 'x', c int default -3, primary key (c, a))",
            "create table t (a int, b text, unique (b, a), check (a > 0 or b like '*x'), check (a <> -1))",
            "create table t (a int, b int, unique (b), unique (a), primary key (a))",
            "create table t (a int, b int, primary key (b), foreign key (a) references t (b), foreign key (b) references p (x))", "create table t (b int, a text, foreign key (b, a) references p (x, y))",
        ):
            session = session_with("create table p (x int, y text, primary key (x), unique (y, x))", text)
            catalog = session.engine.store.catalog
            found = table_declaration(catalog, catalog.tables["t"])
            one, other = parse(found), parse(text)
            self.assertEqual((one[:3], sorted(map(repr, one[3]))), (other[:3], sorted(map(repr, other[3]))), found)
            again = session_with("create table p (x int, y text, primary key (x), unique (y, x))", found)
            self.assertEqual(again.engine.store.catalog.shown(), catalog.shown())

    def test_many_unique_constraints(self):
        columns = ", ".join(f"c{number} int" for number in range(12))
        rules = ", ".join(f"unique (c{number})" for number in range(11, -1, -1))
        session = session_with(f"create table t ({columns}, {rules})")
        catalog = session.engine.store.catalog
        self.assertEqual(restore(dump(session.engine), Disk(400)).engine.store.catalog.shown(), catalog.shown())

    def test_unknown_tables(self):
        session = session_with("create table p (x int, primary key (x))",
            "create table t (a int, foreign key (a) references p (x))", "create index i on t (a)")
        catalog = session.engine.store.catalog
        table, index = catalog.tables["t"], catalog.indexes["i"]
        self.assertEqual(index_declaration(catalog, index), "create index i on t (a)")
        del catalog.tables["p"]
        self.assertRaises(NameFault, table_declaration, catalog, table)
        del catalog.tables["t"]
        self.assertRaises(NameFault, index_declaration, catalog, index)

    def test_rows(self):
        rows = [(number, None if number % 2 else "it's\n") for number in range(7)]
        texts = insert_texts("t", rows)
        self.assertEqual(texts[1], "insert into t values (5, null), (6, 'it''s\n')")
        self.assertEqual([len(parse(text)[3][1]) for text in texts], [5, 2])
        self.assertEqual([len(parse(text)[3][1]) for text in insert_texts("t", rows, 3)], [3, 3, 1])
        self.assertEqual((insert_texts("t", []), insert_texts("t", [(0, "x"), (1, None)], 7)),
            ([], ["insert into t values (0, 'x'), (1, null)"]))
        self.assertEqual(insert_texts("t", [(-5,), (0,)], 1), ["insert into t values (-5)", "insert into t values (0)"])


class OrderTest(unittest.TestCase):
    def test_tables(self):
        key = "int, primary key (x)"
        session = session_with(
            f"create table m (x {key})", f"create table z (x {key}, foreign key (x) references m (x))",
            f"create table a (x {key}, foreign key (x) references z (x))",
            f"create table b (x {key}, foreign key (x) references b (x))",
            f"create table y (x {key}, foreign key (x) references a (x), foreign key (x) references b (x))",
            f"create table c (x {key})")
        self.assertEqual(table_order(session.engine.store.catalog), ["b", "c", "m", "z", "a", "y"])
        self.assertEqual(table_order(session_with().engine.store.catalog), [])

    def test_views(self):
        session = session_with("create table t (x int)", "create view m as select x from t",
            "create view z as select x from m where exists (select * from t)",
                               "create view a as select x from t where x in (select x from z)",
                               "create view b as select 1", "create view y as select a.x from a, b")
        self.assertEqual(view_order(session.engine.store.catalog), ["b", "m", "z", "a", "y"])
        session.engine.store.catalog.views["m"] = "selec"
        self.assertRaises(TextError, view_order, session.engine.store.catalog)


SETUP = (
    "create table p (a int default -1, b text not null default 'it''s', primary key (a), unique (b, a), check (a > -100))",
    "create table a (c int, d text, foreign key (c) references p (a))",
    "create table s (e int, f int, primary key (e), foreign key (f) references s (e))", "create table k (g text)",
    "create index i on a (d)", "create unique index j on p (b)",
    "create view w as select a, b || '\n''' as q from p where a <> -5", "create view v as select w.a from w, k",
    "insert into p values (-3, 'x\ny'), (0, '')", "insert into p (a) values (9223372036854775807)",
    "insert into a values (-3, null), (null, 'q'), (0, 'q')",
    "insert into s values (1, 9), (2, 1), (3, 3), (4, null), (5, 2), (6, 6), (7, 1), (9, 2)",
    "insert into k values ('a'), ('a'), (null), ('a'), ('--'), ('; drop'), (null)",
)


class DumpTest(unittest.TestCase):
    def test_what_is_made_is_the_same(self):
        session = session_with(*SETUP)
        texts = dump(session.engine)
        again = restore(texts, Disk(300), 2)
        self.assertEqual(values(held(again.engine)), values(held(session.engine)))
        self.assertEqual((dump(again.engine), again.engine.pager.capacity, session.engine.active, again.engine.active),
            (texts, 2, [], []))
        again.engine.check()
        for text in ("insert into a values (77, null)", "insert into p values (0, 'z')",
            "insert into p values (-100, 'z')", "insert into s values (0, 77)", "drop table p", "drop view w"):
            self.assertRaises(ConstraintFault, again.run, text)
        self.assertEqual(again.run("select * from v").rows, session.run("select * from v").rows)

    def test_order_of_statements(self):
        texts = dump(session_with(*SETUP).engine)
        words = [" ".join(text.split()[:3]) for text in texts]
        self.assertEqual([word for word in words if word.startswith("create")],
            ["create table k", "create table p", "create table a", "create table s", "create index i",
                "create unique index",
                                                                               "create view w", "create view v"])
        self.assertEqual([word for word in words if word.startswith("insert")],
            ["insert into k"] * 2 + ["insert into p", "insert into a", "insert into s"])
        self.assertEqual(len(parse([text for text in texts if text.startswith("insert into s")][0])[3][1]), 8)
        self.assertLess(words.index("create table p"), words.index("insert into a"))

    def test_empty_databases(self):
        self.assertEqual(dump(session_with().engine), [])
        session = restore([], Disk(96))
        self.assertEqual((session.engine.stamp, dump(session.engine)), (0, []))

    def test_the_last_commit_is_dumped(self):
        session = session_with("create table t (a int)", "insert into t values (1)")
        other = beside(session)
        session.run("begin")
        session.run("insert into t values (2)")
        other.run("update t set a = 3")
        texts = dump(session.engine)
        self.assertEqual((texts, session.engine.active), (["create table t (a int)", "insert into t values (3)"],
            [session.transaction]))

    def test_faults(self):
        self.assertRaises(TextError, restore, ["selec"], Disk(96))
        self.assertRaises(NameFault, restore, ["select * from t"], Disk(96))
        session = session_with("create table t (a int)")
        session.run("begin")
        session.engine.store.catalog.views["v"] = "selec"
        self.assertRaises(TextError, dump, session.engine)
        self.assertEqual(len(session.engine.active), 1)


class CheckedTest(unittest.TestCase):
    """Dumps of tables whose checks read other tables and views."""

    def check_made_again(self, *texts):
        """Check that a dump makes the same database, and return the words of its statements."""
        session = session_with(*texts)
        told = dump(session.engine)
        again = restore(told, Disk(300))
        self.assertEqual(values(held(again.engine)), values(held(session.engine)))
        self.assertEqual(dump(again.engine), told)
        again.engine.check()
        return [" ".join(text.split()[:3]) for text in told]

    def test_a_table_that_a_check_reads(self):
        words = self.check_made_again("create table z (a int)", "create table b (x int, check (x in (select a from z)))",
            "insert into z values (1), (2)", "insert into b values (1)", "create table c (y int)", "create table a (y int)")
        self.assertEqual(words, ["create table a", "create table c", "create table z", "insert into z", "create table b",
            "insert into b"])

    def test_checks_that_read_in_any_place(self):
        for test in ("exists (select * from z where z.a = x)", "x = (select max(a) from z)",
            "x > 0 and not x not in (select q.a from z q union select 0)", "case when x in (select a from z) then 1 else 0 end = 1",
            "x in (select s.m from (select a as m from z) s left join z on s.m = z.a)",
            "x in (select a from z group by a having count(*) = (select count(*) from z where a = x))"):
            words = self.check_made_again("create table z (a int)", f"create table b (x int, check ({test}))",
                "insert into z values (1), (2)", "insert into b values (2)")
            self.assertEqual(words, ["create table z", "insert into z", "create table b", "insert into b"], test)

    def test_several_checks_and_references(self):
        words = self.check_made_again(
            "create table y (k int, primary key (k))", "create table x (a int, foreign key (a) references y (k))",
            "create table w (b int)", "create table d (e int, check (e > 0))",
            "create table c (d int, check (d in (select a from x)), check (d <> 0), check (exists (select * from w where b = d)))",
            "create table b (d int, primary key (d), foreign key (d) references b (d), check (d in (select d from c)))",
            "insert into y values (1), (2)", "insert into x values (2), (1)", "insert into w values (1)",
            "insert into d values (3)", "insert into c values (1)", "insert into b values (1)")
        self.assertEqual([word for word in words if word.startswith("create")],
            [f"create table {name}" for name in "dwyxcb"])
        self.assertEqual([word[-1] for word in words if word.startswith("insert")], list("dwyxcb"))

    def test_views_that_checks_read(self):
        words = self.check_made_again(
            "create table z (a int)", "create view v as select a from z where a > 0", "create view u as select a + 1 as m from v",
            "create table b (x int, check (x in (select m from u)))", "create table c (x int, check (x in (select a from v)))",
            "create view t as select x from b", "create view a as select 1", "create index i on z (a)",
            "insert into z values (1), (2), (-1)", "insert into b values (2), (3)", "insert into c values (1)")
        self.assertEqual(words, ["create table z", "insert into z", "create view v", "create view u", "create table b",
            "insert into b", "create table c", "insert into c", "create index i", "create view a", "create view t"])

    def test_orders(self):
        session = session_with("create table z (a int)", "create view v as select a from z",
            "create table b (x int, check (x in (select a from v)))", "create table a (x int, check (x in (select x from b)))",
            "create table c (x int, check (x > 1))")
        catalog = session.engine.store.catalog
        self.assertEqual((table_order(catalog), view_order(catalog)), (["c", "z", "b", "a"], ["v"]))
        catalog.views["v"] = parse("select x as a from c")
        self.assertEqual(table_order(catalog), ["c", "b", "a", "z"])
        catalog.views["v"] = "selec"
        self.assertRaises(TextError, table_order, catalog)

    def test_tables_whose_checks_read_one_another(self):
        # Only tables that were dropped in between can be so; no statements make them, but all of them are told.
        session = session_with("create table z (a int)", "create table b (x int, check (x in (select a from z)))",
            "drop table z")
        self.assertEqual(table_order(session.engine.store.catalog), ["b"])
        session.run("create table z (a int, check (a in (select x from b)))")
        session.run("create table a (y int, check (y in (select a from z)))")
        self.assertEqual(table_order(session.engine.store.catalog), ["a", "b", "z"])
        self.assertEqual(len(dump(session.engine)), 3)

    def test_a_view_of_a_tuple(self):
        session = session_with("create table t (a int)", "insert into t values (5)")
        query = parse("select a + 1 as b from t where a > 0")
        session.engine.define(lambda store: store.create_view("v", query))
        session.run("create view w as select b from v")
        self.assertEqual((session.run("select * from w").rows, session.run("select * from v").names), (((6,),), ("b",)))
        self.assertRaises(ConstraintFault, session.run, "drop table t")
        self.assertRaises(ConstraintFault, session.run, "drop view v")
        texts = dump(session.engine)
        self.assertEqual(texts[-2:], ["create view v as select a + 1 as b from t where a > 0",
            "create view w as select b from v"])
        self.assertEqual(dump(restore(texts, Disk(400)).engine), texts)


class StandbyTest(unittest.TestCase):
    def setUp(self):
        self.session = session_with("create table t (a int, primary key (a))", size=200)
        self.disk = self.session.engine.pager.disk
        self.standby = Standby(200)

    def check(self, disk=None):
        """Check that the disk of a copy holds what the followed one does."""
        found = open_engine(Disk(200, self.standby.blocks, self.standby.log))
        self.assertEqual(held(found), held(open_engine(Disk(200, (disk or self.disk).blocks, (disk or self.disk).log))))
        found.check()

    def test_more_of_the_log(self):
        self.assertEqual((self.standby.blocks, self.standby.log, self.standby.copies, self.standby.block_size),
            ({}, (), 0, 200))
        self.assertEqual((self.standby.follow(self.disk), self.standby.copies), (len(self.disk.blocks), 1))
        self.check()
        for number in range(3):
            before = len(self.disk.log)
            self.session.run(f"insert into t values ({number})")
            self.assertEqual((self.standby.follow(self.disk), self.standby.copies, self.standby.log),
                (len(self.disk.log) - before, 1, self.disk.log))
            self.check()
        self.assertEqual((self.standby.follow(self.disk), self.standby.copies), (0, 1))

    def test_checkpoints_and_vacuums(self):
        engine = self.session.engine
        self.standby.follow(self.disk)
        self.session.run("insert into t values (1)")
        engine.checkpoint()
        self.assertEqual((self.standby.follow(self.disk), self.standby.copies, self.standby.log),
            (engine.pager.page_count(), 2, ()))
        self.check()
        self.assertEqual((self.standby.follow(self.disk), self.standby.copies), (engine.pager.page_count(), 3))
        self.session.run("delete from t")
        engine.vacuum()
        self.assertEqual((self.standby.follow(self.disk), self.standby.copies), (engine.pager.page_count(), 4))
        self.session.run("insert into t values (2)")
        self.standby.follow(self.disk)
        self.assertEqual(self.standby.copies, 4)
        engine.checkpoint()
        self.session.run("insert into t values (3)")
        self.standby.follow(self.disk)
        self.assertEqual(self.standby.copies, 5)
        self.check()

    def test_only_what_was_kept(self):
        self.standby.follow(self.disk)
        self.disk.append_log((1, 2, 3))
        self.disk.write_block(50, (0,) * 200)
        self.assertEqual(self.standby.follow(self.disk), 0)
        self.disk.arm(0)
        self.assertRaises(DiskFault, self.session.run, "insert into t values (9)")
        self.assertEqual((self.standby.follow(self.disk), self.standby.copies), (0, 1))

    def test_crashes(self):
        for seed in range(60):
            chance = random.Random(seed)
            session = session_with("create table t (a int, primary key (a))", size=200, capacity=2)
            standby = self.standby = Standby(200)
            disk = session.engine.pager.disk
            disk.arm(chance.randint(0, 40))
            try:
                for number in range(30):
                    session.run(f"insert into t values ({number})")
                    if chance.random() < 0.4:
                        standby.follow(disk)
                    if chance.random() < 0.15:
                        session.engine.checkpoint()
            except DiskFault:
                pass
            standby.follow(disk)
            self.check(disk)
            found = drawn_restart(disk, chance)
            if chance.random() < 0.5:
                standby.follow(found)
                self.check(found)
            engine = open_engine(found)
            standby.follow(found)
            self.check(found)
            promoted = standby.promote()
            self.assertEqual((held(open_engine(promoted)), damaged_blocks(promoted)), (held(engine), ()))

    def test_promotion(self):
        self.session.run("insert into t values (1)")
        self.standby.follow(self.disk)
        disk = self.standby.promote()
        self.assertIsInstance(disk, Disk)
        self.assertRaises(StateFault, self.standby.follow, self.disk)
        self.assertRaises(StateFault, self.standby.promote)
        self.assertEqual((self.standby.copies, disk.block_size), (1, 200))
        engine = open_engine(disk)
        self.assertEqual((engine.stamp, engine.begin().table_rows("t")), (self.session.engine.stamp, [(1,)]))
        self.session.run("insert into t values (2)")
        self.assertEqual(open_engine(disk.restarted((), 0)).begin().table_rows("t"), [(1,)])

    def test_an_empty_standby(self):
        self.assertEqual(open_engine(self.standby.promote()).store.catalog.shown(), ((), (), ()))
        other = Standby(96)
        self.assertEqual((other.follow(Disk(96)), other.copies, other.follow(Disk(96)), other.copies), (0, 1, 0, 2))

    def test_other_blocks(self):
        for size in (96, 199, 201):
            self.assertRaises(DiskFault, self.standby.follow, Disk(size))
        self.assertEqual((self.standby.copies, self.standby.follow(self.disk)), (0, len(self.disk.blocks)))

    def test_another_database(self):
        self.standby.follow(self.disk)
        other = session_with("create table u (b text)", size=200).engine.pager.disk
        self.standby.follow(other)
        self.assertEqual(self.standby.copies, 2)
        self.check(other)


if __name__ == "__main__":
    unittest.main()
