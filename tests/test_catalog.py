"""Points 6, 18 and 19: what is created and dropped, what is not, views, and the catalog opened anew."""

import unittest

from tests.databases import beside, fault_of, held, reopened, session_with

SETUP = (
    "create table p (a int, b int, primary key (a), unique (b))",
    "create table q (c int, foreign key (c) references p (b))",
    "create table s (d int, e int, primary key (d), foreign key (e) references s (d))", "create index i on q (c)",
    "create view v as select a from p",
    "create view w as select v.a, x.e from v, s x", "create table free (f text)",
)


class CatalogTest(unittest.TestCase):
    def check(self, session, cases):
        """Carry out statements; a refused one changes nothing, the others last when the database is opened anew."""
        for text, fault in cases:
            before = (held(session.engine), session.engine.stamp)
            self.assertEqual(fault_of(session, text), fault, text)
            if fault is None:
                self.assertEqual(session.engine.stamp, before[1] + 1)
                self.assertEqual(held(reopened(session).engine), held(session.engine), text)
            else:
                self.assertEqual((held(session.engine), session.engine.stamp), before, text)
            session.engine.check()

    def test_what_is_created(self):
        self.check(session_with(*SETUP), (
            ("create table p (z int)", "NameFault"), ("create table v (z int)", "NameFault"),
            ("create table i (z int)", None), ("create view p as select 1", "NameFault"),
            ("create view v as select 1", "NameFault"), ("create view i as select 1", "NameFault"),
            ("create index i on p (a)", "NameFault"), ("create index v on p (a)", None),
            ("create index n on nobody (a)", "NameFault"), ("create index n on v (a)", "NameFault"),
            ("create index n on p (z)", "NameFault"), ("create index n on p (a, a)", "NameFault"),
            ("create unique index n on p (b, a)", None), ("create table n (a int, a text)", "NameFault"),
            ("create table n (a int, primary key (z))", "NameFault"),
            ("create table n (a int, primary key (a), primary key (a))", "NameFault"),
            ("create table n (a int default 'x')", "KindFault"), ("create table n (a int default b)", "KindFault"),
            ("create table n (a int default 1 + 1)", "TextError"),
            ("create table n (a int, unique (a, a))", "NameFault"),
            ("create table n (a int not null default null)", None),
            ("create view m as select z from p", "NameFault"), ("create view m as select * from m", "NameFault"),
            ("create view m as select a + 'x' from p", "KindFault"),
            ("create view m as select a from p where a", "KindFault"), ("create view m as select a, a from p, i", None),
        ))

    def test_references(self):
        self.check(session_with("create table p (a int, b text, c int, d text, primary key (a, b), unique (c), unique (d, a))", "create view v as select a from p",
                                "create unique index i on p (b)"), (
            ("create table n (x int, y text, foreign key (y, x) references p (b, a))", None), ("drop table n", None),
            ("create table n (x int, foreign key (x) references p (c))", None),
            ("drop table n", None), ("create table n (x int, y text, foreign key (x, y) references p (a, d))", None),
            ("drop table n", None),
            ("create table n (x int, foreign key (x) references p (a))", "NameFault"),
            ("create table n (y text, foreign key (y) references p (b))", "NameFault"),
            ("create table n (x int, y text, foreign key (x, y) references p (c, d))", "NameFault"),
            ("create table n (x int, y text, foreign key (x) references p (a, b))", "NameFault"),
            ("create table n (x int, y text, foreign key (x, y) references p (c))", "NameFault"),
            ("create table n (x text, foreign key (x) references p (c))", "KindFault"),
            ("create table n (x int, y text, foreign key (x, y) references p (b, a))", "KindFault"),
            ("create table n (x int, foreign key (z) references p (c))", "NameFault"),
            ("create table n (x int, foreign key (x) references p (z))", "NameFault"),
            ("create table n (x int, foreign key (x) references nobody (c))", "NameFault"),
            ("create table n (x int, foreign key (x) references v (a))", "NameFault"),
            ("create table n (x int, foreign key (x, x) references p (a, b))", "NameFault"),
            ("create table n (x int, y int, foreign key (x) references n (y))", "NameFault"),
            ("create table n (x int, y int, unique (y), foreign key (x) references n (y))", None),
        ))

    def test_what_is_dropped(self):
        self.check(session_with(*SETUP), (
            ("drop table nobody", "NameFault"), ("drop table v", "NameFault"), ("drop view p", "NameFault"),
            ("drop view nobody", "NameFault"), ("drop index nobody", "NameFault"),
            ("drop index p", "NameFault"), ("drop table p", "ConstraintFault"), ("drop table s", "ConstraintFault"),
            ("drop view v", "ConstraintFault"), ("drop index p.0", "ConstraintFault"),
            ("drop table free", None), ("drop view w", None), ("drop table s", None),
            ("drop table p", "ConstraintFault"), ("drop view v", None), ("drop table p", "ConstraintFault"),
            ("drop index i", None), ("drop index i", "NameFault"), ("drop table q", None), ("drop table p", None),
            ("drop table p", "NameFault"),
        ))
        session = session_with("create table t (a int)", "create view v as select 1 where exists (select * from t)")
        self.check(session, (("drop table t", "ConstraintFault"), ("drop view v", None), ("drop table t", None)))
        self.assertEqual(session.engine.check(), 2)

    def test_all_pages_of_a_table_are_given_back(self):
        session = session_with("create table t (a int, b int, primary key (a), unique (b))",
            "create index i on t (b, a)", size=200)
        few = session.engine.check()
        session.run("drop table t")
        least = session.engine.check()
        session.run("create table t (a int, b int, primary key (a), unique (b))")
        session.run("create index i on t (b, a)")
        session.run("insert into t values " + ", ".join(f"({number}, {number})" for number in range(200)))
        self.assertGreater(session.engine.check(), few + 30)
        session.run("drop index i")
        session.engine.check()
        session.run("drop table t")
        self.assertEqual(session.engine.check(), least)

    def test_an_index_goes_with_its_table(self):
        session = session_with("create table t (a int, unique (a))", "create index i on t (a)", "drop table t",
            "create table t (b text)", "create index i on t (b)",
                               "insert into t values ('x')")
        self.assertEqual((sorted(session.engine.store.catalog.indexes),
            session.run("select * from t where b = 'x'").rows), (["i"], (("x",),)))
        session.engine.check()

    def test_unique_indexes_over_rows_that_are_there(self):
        session = session_with("create table t (a int, b int)",
            "insert into t values (1, 1), (1, 2), (null, 1), (null, 1)")
        self.check(session, (
            ("create unique index i on t (a)", "ConstraintFault"),
            ("create unique index i on t (b)", "ConstraintFault"), ("create unique index i on t (b, a)", None),
            ("create index j on t (a)", None),
        ))
        for text, fault in (("insert into t values (1, 2)", "ConstraintFault"),
            ("insert into t values (2, null), (2, null)", None), ("insert into t values (null, 1)", None),
                            ("update t set b = 1 where a = 1", "ConstraintFault"),
                            ("update t set b = 3 - b where a = 1", None)):
            self.assertEqual(fault_of(session, text), fault, text)
        self.assertEqual(fault_of(reopened(session), "insert into t values (1, 2)"), "ConstraintFault")
        session.run("drop index i")
        session.run("insert into t values (1, 2)")
        session.engine.check()

    def test_an_index_over_versions_of_rows(self):
        session = session_with("create table t (a int, b int, primary key (a))", "insert into t values (1, 1), (2, 2)",
            "update t set b = 1 where a = 2", "update t set b = 5 where a = 1",
                               "delete from t where a = 1", "create unique index i on t (b)")
        self.assertEqual(session.run("select a from t where b = 1").rows, ((2,),))
        session.engine.check()

    def test_tables_of_one_name_after_each_other(self):
        session = session_with("create table t (a int, primary key (a))", "insert into t values (1)", "analyze t",
            "drop table t", "create table t (a text, b text)",
                               "insert into t values ('x', 'y')")
        self.assertEqual((session.run("select * from t").rows, reopened(session).run("select * from t").rows),
            ((("x", "y"),),) * 2)
        session.run("create index i on t (b)")
        self.assertEqual(session.run("select a from t where b = 'y'").rows, (("x",),))


class ViewTest(unittest.TestCase):
    def test_views_of_views(self):
        session = session_with(
            "create table t (a int, b text)", "insert into t values (1, 'x'), (2, 'y'), (3, 'y')",
            "create view v as select a as n, b, a + 1, count(*) as many from t group by a, b",
            "create view w as select n, column3 from v where b = 'y'",
            "create view x as select z.n as m, w.* from v z join w on z.n = w.column3")
        for text, names, rows in (
            ("select * from v", ("n", "b", "column3", "many"), ((1, "x", 2, 1), (2, "y", 3, 1), (3, "y", 4, 1))),
            ("select v.many, n from v where v.n = 2", ("many", "n"), ((1, 2),)),
            ("select * from w", ("n", "column3"), ((2, 3), (3, 4))),
            ("select * from x", ("m", "n", "column3"), ((3, 2, 3),)), ("select x.m from x x", ("m",), ((3,),)),
            ("select count(*) as c from x, w", ("c",), ((2,),)),
        ):
            answer = session.run(text)
            self.assertEqual((answer.names, answer.rows), (names, rows), text)
            self.assertEqual(reopened(session).run(text).rows, rows)
        for text in ("select a from v", "select count from w", "select v.n from v y", "select b from w"):
            self.assertEqual(fault_of(session, text), "NameFault", text)

    def test_a_view_sees_later_rows_and_own_changes(self):
        session = session_with("create table t (a int)", "create view v as select a from t order by a desc limit 2",
            "insert into t values (1), (2), (3)")
        self.assertEqual(session.run("select * from v").rows, ((2,), (3,)))
        session.run("begin")
        session.run("insert into t values (4)")
        self.assertEqual((session.run("select * from v").rows, beside(session).run("select * from v").rows),
            (((3,), (4,)), ((2,), (3,))))

    def test_columns_of_one_name(self):
        session = session_with("create table t (a int)", "insert into t values (1)",
            "create view v as select a, a + 1 as a from t")
        self.assertEqual((session.run("select * from v").rows, fault_of(session, "select a from v")),
            (((1, 2),), "NameFault"))

    def test_many_views_of_views(self):
        session = session_with("create table t (a int, primary key (a))", "insert into t values (1), (2)",
            "create view v0 as select a from t")
        number = 0
        while fault_of(session, f"create view v{number + 1} as select a from v{number} where a > 1") is None:
            number += 1
        self.assertGreater(number, 20)
        self.assertEqual(session.run(f"select * from v{number}").rows, ((2,),))
        self.assertEqual(fault_of(session, f"create view x as select a from v{number} where a > 1"), "PlanFault")


if __name__ == "__main__":
    unittest.main()
