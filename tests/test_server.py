"""Point 19 and the server: options, answers, rows that statements put and drop, and the constraints that they keep."""

import unittest

from tablestack.disk import Disk
from tablestack.errors import (
    ConstraintFault, KindFault, NameFault, PageFault, PlanFault, StateFault, TextError,
)
from tablestack.parser import parse
from tablestack.rewrite import RULES
from tablestack.server import Answer, Options, Session, connect
from tests.databases import beside, fault_of, held, reopened, session_with

T = "create table t (a int, b text not null default 'x', c int default -5, primary key (a))"


class OptionsTest(unittest.TestCase):
    def test_defaults(self):
        options = Options()
        self.assertEqual((options.rules, options.reordered, options.indexed, options.joins, options.compiled,
            options.limit),
                         (RULES, True, True, ("nested", "hash", "merge"), True, 0))
        options = Options(["push"], False, False, ["merge"], False, 3)
        self.assertEqual((options.rules, options.reordered, options.indexed, options.joins, options.compiled,
            options.limit),
                         (("push",), False, False, ("merge",), False, 3))
        Options((), joins=())

    def test_unknown_ones(self):
        for arguments in ({"rules": ("push", "fold")}, {"rules": ("nested",)}, {"joins": ("loop",)},
            {"joins": ("hash", "push")},
                          {"limit": -1}, {"rules": ("",), "limit": -5}):
            self.assertRaises(StateFault, Options, **arguments)

    def test_sessions(self):
        session = session_with()
        self.assertEqual((session.transaction, session.options.limit, session.options.rules), (None, 0, RULES))
        options = Options(limit=2)
        self.assertEqual(connect(Disk(96), 1, options).options, options)
        self.assertEqual(Session(session.engine, options).engine, session.engine)
        for arguments in ((Disk(95),), (Disk(96), 0)):
            self.assertRaises(PageFault, connect, *arguments)

    def test_a_session_keeps_to_its_options(self):
        session = session_with(T, "create index i on t (c)", "insert into t values (1, 'q', 2), (2, 'r', 2)")
        text = "explain select x.a from t x join t y on x.c = y.c where x.a = 1"
        for options, words in (
            (Options(), ("range", "hash")), (Options(indexed=False), ("scan", "hash")),
            (Options(joins=("merge",)), ("range", "merge")),
            (Options(joins=()), ("range", "nested")), (Options(rules=()), ("filter", "hash")),
            (Options(joins=("nested",)), ("range", "nested")),
        ):
            lines = "\n".join(row[0] for row in beside(session, options).run(text).rows)
            self.assertTrue(all(word in lines for word in words), (lines, words))


class AnswerTest(unittest.TestCase):
    def test_shown(self):
        answer = Answer("select", ["a"], [(1,), (2,)], 0)
        self.assertEqual(answer.shown(), ("select", ("a",), ((1,), (2,)), 0))

    def test_answers_of_statements(self):
        session = session_with()
        for text, shown in (
            (T, ("create_table", (), (), 0)), ("create unique index i on t (c, b)", ("create_index", (), (), 0)),
            ("create view v as select a from t", ("create_view", (), (), 0)),
            ("insert into t values (1, 'y', 1), (2, 'y', 2)", ("insert", (), (), 2)),
            ("insert into t select a + 5, b, a from t where a > 7", ("insert", (), (), 0)),
            ("update t set c = c", ("update", (), (), 2)),
            ("update t set c = 0 where a = 9", ("update", (), (), 0)),
            ("delete from t where a = 1", ("delete", (), (), 1)),
            ("select a, b as z, 1 + 1 from t", ("select", ("a", "z", "column3"), ((2, "y", 2),), 0)),
            ("select * from v where a > 5", ("select", ("a",), (), 0)),
            ("explain select 1", ("explain", ("plan",), (("sort by 1",), ("  project 1",), ("    unit",)), 0)),
            ("analyze t", ("analyze", (), (), 0)), ("begin", ("begin", (), (), 0)),
            ("savepoint s", ("savepoint", (), (), 0)),
            ("rollback to s", ("rollback_to", (), (), 0)), ("release s", ("release", (), (), 0)),
            ("commit", ("commit", (), (), 0)), ("begin", ("begin", (), (), 0)),
            ("rollback", ("rollback", (), (), 0)), ("drop view v", ("drop_view", (), (), 0)),
            ("drop index i", ("drop_index", (), (), 0)),
            ("DROP TABLE T;", ("drop_table", (), (), 0)),
        ):
            answer = session.run(text)
            self.assertIsInstance(answer, Answer)
            self.assertEqual(answer.shown(), shown, text)

    def test_scripts(self):
        session = session_with()
        answers = session.run_script(f"{T}; insert into t values (1, 'y', 1); select a from t")
        self.assertEqual([answer.word for answer in answers], ["create_table", "insert", "select"])
        self.assertEqual((answers[2].rows, session.run_script(""), session.run_script(" -- none\n")), (((1,),), [], []))

    def test_scripts_with_a_wrong_statement_in_the_middle(self):
        session = session_with(T)
        self.assertRaises(NameFault, session.run_script,
            "insert into t (a) values (1); select z from t; insert into t (a) values (2)")
        self.assertEqual(session.run("select a from t").rows, ((1,),))
        self.assertRaises(ConstraintFault, session.run_script,
            "begin; insert into t (a) values (3); insert into t (a) values (1); commit")
        self.assertEqual(session.run("select a from t").rows, ((1,), (3,)))
        session.run("rollback")
        self.assertEqual(session.run("select a from t").rows, ((1,),))
        self.assertRaises(TextError, session.run_script,
            "insert into t (a) values (4); selec; insert into t (a) values (5)")

    def test_invalid_texts(self):
        session = session_with(T)
        for text in ("", "selec", "select 1; select 2", "insert into t values ()", "vacuum", "explain delete from t",
            "select 'é'"):
            self.assertRaises(TextError, session.run, text)

    def test_statements_within_a_transaction_of_the_engine(self):
        session = session_with(T)
        transaction = session.engine.begin()
        session.within(parse("insert into t (a) values (1), (2)"), transaction)
        session.change(parse("update t set c = a"), transaction)
        session.change(parse("delete from t where c = 1"), transaction)
        self.assertEqual((transaction.table_rows("t"), session.run("select * from t").rows), ([(2, "x", 2)], ()))
        self.assertEqual(session.plan_rows(("filter", ("truth", True), ("scan", "t", 3)), transaction), [(2, "x", 2)])
        session.engine.commit(transaction)
        self.assertEqual(session.run("select * from t").rows, ((2, "x", 2),))
        self.assertIsNone(session.define(parse("create view v as select a from t")))
        self.assertEqual(session.run("select * from v").rows, ((2,),))


class InsertTest(unittest.TestCase):
    def test_defaults(self):
        session = session_with(T)
        for text in ("insert into t (a) values (1)", "insert into t values (2, 'y', null)",
            "insert into t (c, a) values (7, 3)",
                     "insert into t (b, a) select 'q' || b, a + 3 from t where a = 1"):
            session.run(text)
        self.assertEqual(session.run("select * from t").rows,
            ((1, "x", -5), (2, "y", None), (3, "x", 7), (4, "qx", -5)))

    def test_expressions(self):
        session = session_with(T, "insert into t values (1 + 1 * 2, 'a' || 'b', (select 5))")
        session.run("insert into t values ((select max(a) from t) + 1, case when exists (select * from t) then 'y' else 'n' end, (select count(*) from t))")
        self.assertEqual(session.run("select * from t").rows, ((3, "ab", 5), (4, "y", 1)))
        session.run("insert into t select a + 10, b, c from t")
        self.assertEqual(session.run("select count(*), min(a), max(a) from t").rows, ((4, 3, 14),))

    def test_wrong_rows(self):
        session = session_with(T, "create view v as select a from t", "insert into t (a) values (1)")
        before = held(session.engine)
        for fault, text in (
            ("KindFault", "insert into t values (2)"), ("KindFault", "insert into t values (2, 'y')"),
            ("KindFault", "insert into t values (2, 'y', 3, 4)"),
            ("KindFault", "insert into t (a, b) values (2)"), ("KindFault", "insert into t (a) values (2, 'y')"),
            ("KindFault", "insert into t values (2, 'y', 3), (3, 'y')"),
            ("KindFault", "insert into t (a, b) select a + 5 from t"),
            ("KindFault", "insert into t values ('2', 'y', 3)"), ("KindFault", "insert into t (a, b) values (2, 3)"),
            ("KindFault", "insert into t (a, c) select 5, 'x' from t"),
            ("KindFault", "insert into t (a) values (1 = 1)"), ("KindFault", "insert into t (a) values (1 + 'x')"),
            ("ConstraintFault", "insert into t values (2, null, 3)"),
            ("ConstraintFault", "insert into t values (null, 'y', 3)"),
            ("ConstraintFault", "insert into t (b) values ('y')"),
            ("ConstraintFault", "insert into t (a) values (1)"),
            ("ConstraintFault", "insert into t (a) values (2), (3), (2)"),
            ("ConstraintFault", "insert into t (a) values (2), (1)"),
            ("ConstraintFault", "insert into t (a) select a from t"),
            ("ConstraintFault", "insert into t (a) values (9223372036854775807 + 1)"),
            ("NameFault", "insert into u values (1)"), ("NameFault", "insert into v values (1)"),
            ("NameFault", "insert into t (z) values (1)"),
            ("NameFault", "insert into t (a, a) values (1, 2)"), ("NameFault", "insert into t (a) values (b)"),
            ("NameFault", "insert into t (a) values (max(1))"),
            ("NameFault", "insert into t (a) select z from t"),
            ("ConstraintFault", f"insert into t values (2, '{'y' * 90}', 3)"),
        ):
            self.assertEqual(fault_of(session, text), fault, text)
            self.assertEqual((held(session.engine), session.engine.active), (before, []))
        session.run("insert into t (a) values (2)")

    def test_large_expressions(self):
        session = session_with(T)
        wide = " + ".join(["1"] * 90)
        many = ", ".join([f"({wide})"] * 40)
        self.assertRaises(PlanFault, session.run, f"insert into t (a) values ((select 1 where 1 in ({many})))")
        self.assertRaises(PlanFault, session.run, f"update t set c = (select 1 where 1 in ({many}))")
        self.assertRaises(PlanFault, session.run, f"delete from t where a in ({many})")
        self.assertRaises(PlanFault, session.run, f"select 1 where 1 in ({many})")
        session.run("insert into t (a) values " + ", ".join(f"({number})" for number in range(500)))
        self.assertEqual(session.run("select count(*) from t").rows, ((500,),))

    def test_rows_without_a_key(self):
        session = session_with("create table t (a int)", "insert into t values (1), (1), (null)",
            "insert into t select a from t")
        self.assertEqual(session.run("select a from t").rows, ((None,), (None,), (1,), (1,), (1,), (1,)))
        session.run("update t set a = 2 where a = 1")
        session.run("delete from t where a is null")
        self.assertEqual(session.run("select a from t").rows, ((2,),) * 4)
        session.engine.vacuum()
        again = reopened(session)
        again.run("insert into t values (5)")
        self.assertEqual(again.run("select a from t").rows, ((2,),) * 4 + ((5,),))
        again.engine.check()


class UpdateTest(unittest.TestCase):
    def setUp(self):
        self.session = session_with(T, "create unique index i on t (c)",
            "insert into t values (1, 'p', 10), (2, 'q', 20), (3, 'r', null), (4, 's', null)")

    def rows(self):
        return self.session.run("select * from t").rows

    def test_old_values_are_read(self):
        self.session.run("update t set a = c, c = a where c is not null")
        self.assertEqual(self.rows(), ((3, "r", None), (4, "s", None), (10, "p", 1), (20, "q", 2)))
        self.session.run("update t set c = (select sum(a) from t) + a, b = b || '!' where a < 11 and c is null or a = 10")
        self.assertEqual(self.rows(), ((3, "r!", 40), (4, "s!", 41), (10, "p!", 47), (20, "q", 2)))

    def test_values_that_rows_pass_on_to_each_other(self):
        for text, rows in (
            ("update t set a = a + 1", ((2, "p", 10), (3, "q", 20), (4, "r", None), (5, "s", None))),
            ("update t set a = 7 - a", ((2, "s", None), (3, "r", None), (4, "q", 20), (5, "p", 10))),
            ("update t set c = 30 - c where c is not null", ((2, "s", None), (3, "r", None), (4, "q", 10), (5, "p",
                20))),
            ("update t set c = case when c = 10 then 20 when c = 20 then null else null end",
                ((2, "s", None), (3, "r", None), (4, "q", 20), (5, "p", None))),
        ):
            self.session.run(text)
            self.assertEqual(self.rows(), rows, text)
        self.session.engine.check()

    def test_refused_updates(self):
        before = held(self.session.engine)
        for fault, text in (
            ("ConstraintFault", "update t set a = 1"), ("ConstraintFault", "update t set a = 2 where a = 1"),
            ("ConstraintFault", "update t set c = 10 where a > 1"),
            ("ConstraintFault", "update t set c = 7"), ("ConstraintFault", "update t set b = null where a = 3"),
            ("ConstraintFault", "update t set a = null where a = 3"),
            ("KindFault", "update t set a = 'x'"), ("KindFault", "update t set b = 5 where a = 1"),
            ("KindFault", "update t set c = a = 1"), ("KindFault", "update t set a = 1 where a"),
            ("NameFault", "update t set z = 1"), ("NameFault", "update t set a = z"),
            ("NameFault", "update t set a = 5, a = 6 where a = 1"), ("NameFault", "update u set a = 1"),
            ("NameFault", "update t set a = 1 where u.a = 1"), ("NameFault", "update t set a = count(*)"),
            ("KindFault", "update t set a = (select a, b from t)"),
            ("ConstraintFault", f"update t set b = '{'y' * 90}' where a = 4"),
        ):
            self.assertEqual(fault_of(self.session, text), fault, text)
            self.assertEqual((held(self.session.engine), self.session.engine.active), (before, []), text)

    def test_no_rows_no_faults(self):
        for text in ("update t set a = null where a = 99", "update t set a = 1 where b = 'nobody'",
            "delete from t where a > 99"):
            self.assertEqual(self.session.run(text).changed, 0)

    def test_conditions_by_each_way(self):
        for options in (Options(), Options(indexed=False), Options(rules=(), compiled=False), Options(compiled=False)):
            for test, many in (
                ("a = 2", 1), ("a >= 2 and a < 4", 2), ("c = 20", 1), ("c > 5 and c < 15", 1), ("c is null", 2),
                ("c = null", 0), ("a = 1 and a = 2", 0), ("1 = 1", 4),
                ("a in (select a from t where c > 15)", 1), ("a = 1 or c = 20", 2),
                ("exists (select * from t y where y.a = t.a + 3)", 1), ("a > 5 - 2", 1), ("t.a = 9 / 0", 0),
            ):
                session = beside(self.session, options)
                session.run("begin")
                self.assertEqual(session.run(f"update t set b = 'new' where {test}").changed, many, test)
                self.assertEqual(session.run("select count(*) from t where b = 'new'").rows, ((many,),))
                self.assertEqual(session.run("delete from t where b = 'new'").changed, many)
                session.run("rollback")
        self.session.run("delete from t where c = 20")
        self.session.run("delete from t")
        self.assertEqual(self.rows(), ())


class CheckTest(unittest.TestCase):
    def test_checks(self):
        session = session_with("create table t (a int, b text, check (a > 0), check (b like 'x*' or a > 100))")
        for row, fault in (
            ("(1, 'x')", None), ("(0, 'x')", "ConstraintFault"), ("(null, 'x')", None), ("(5, null)", None),
            ("(5, 'y')", "ConstraintFault"), ("(101, 'y')", None),
            ("(null, 'y')", None), ("(1, 'x'), (-1, 'x')", "ConstraintFault"), ("(null, null)", None),
        ):
            self.assertEqual(fault_of(session, f"insert into t values {row}"), fault, row)
        self.assertEqual(session.run("select count(*) from t").rows, ((6,),))
        self.assertEqual(fault_of(session, "update t set a = a - 1"), "ConstraintFault")
        self.assertEqual(fault_of(session, "update t set a = a - 1 where a = 5"), None)
        self.assertEqual(fault_of(reopened(session), "insert into t values (0, 'x')"), "ConstraintFault")

    def test_wrong_checks(self):
        session = session_with()
        for check, fault in (("z > 1", "NameFault"), ("a", "KindFault"), ("b > 1", "KindFault"),
            ("count(*) > 1", "NameFault"), ("u.a > 1", "NameFault")):
            self.assertEqual(fault_of(session, f"create table t (a int, b text, check ({check}))"), fault, check)
        self.assertEqual(session.engine.stamp, 0)
        session.run("create table t (a int, check (t.a > 1))")
        self.assertEqual(fault_of(session, "insert into t values (1)"), "ConstraintFault")

    def test_a_check_with_a_query(self):
        session = session_with("create table u (a int)", "create table t (a int, check (a in (select a from u)))",
            "insert into u values (1)", "insert into t values (1)")
        self.assertEqual(fault_of(session, "insert into t values (2)"), "ConstraintFault")


class ReferenceTest(unittest.TestCase):
    def setUp(self):
        self.session = session_with(
            "create table p (a int, b text, c int, primary key (a), unique (c, b))",
            "create table q (d int, e int, f text, foreign key (d) references p (a), foreign key (f, e) references p (b, c))",
            "insert into p values (1, 'x', 10), (2, 'y', 20), (3, null, 30)")

    def check(self, *cases):
        for text, fault in cases:
            before = held(self.session.engine)
            self.assertEqual(fault_of(self.session, text), fault, text)
            if fault is not None:
                self.assertEqual(held(self.session.engine), before)

    def test_rows_that_are_there(self):
        self.check(
            ("insert into q values (1, 10, 'x')", None), ("insert into q values (4, 10, 'x')", "ConstraintFault"),
            ("insert into q values (1, 10, 'y')", "ConstraintFault"),
            ("insert into q values (1, 20, 'x')", "ConstraintFault"), ("insert into q values (null, null, null)", None),
            ("insert into q values (null, 77, null)", None),
            ("insert into q values (3, null, 'nobody')", None),
            ("insert into q values (1, 30, null), (9, null, null)", "ConstraintFault"), ("update q set d = 2", None),
            ("update q set d = 9 where d = 2 and e = 10", "ConstraintFault"),
            ("update q set e = 20, f = 'y' where e = 10", None),
            ("update q set f = 'x' where e = 20", "ConstraintFault"),
        )

    def test_rows_that_are_referred_to(self):
        self.check(
            ("insert into q values (1, 20, 'y')", None), ("delete from p where a = 3", None),
            ("delete from p where a = 1", "ConstraintFault"), ("delete from p", "ConstraintFault"),
            ("update p set a = 9 where a = 1", "ConstraintFault"),
            ("update p set b = 'z' where a = 2", "ConstraintFault"),
            ("update p set c = null where a = 2", "ConstraintFault"),
            ("update p set c = 7 where a = 1", None), ("update p set a = 5 where a = 2", None),
            ("update p set a = 6 - a", None), ("update p set a = 6 - a where a = 1", "ConstraintFault"),
            ("update q set d = null", None), ("delete from p where a = 5 and c = 7", None), ("delete from q", None),
            ("delete from p", None),
        )

    def test_a_table_that_refers_to_itself(self):
        session = self.session = session_with("create table t (a int, b int, primary key (a), foreign key (b) references t (a))")
        self.check(
            ("insert into t values (1, 2)", "ConstraintFault"), ("insert into t values (1, 2), (2, 1)", None),
            ("insert into t values (3, 3), (4, 9)", "ConstraintFault"),
            ("insert into t values (3, 3), (4, 3), (5, 4), (6, null)", None),
            ("delete from t where a = 1", "ConstraintFault"), ("delete from t where a in (1, 2)", None),
            ("delete from t where a = 3", "ConstraintFault"), ("delete from t where a in (3, 4)", "ConstraintFault"),
            ("update t set a = a + 10", "ConstraintFault"),
            ("update t set a = a + 10, b = b + 10", None), ("update t set b = a", None),
            ("delete from t where a > 14", None), ("delete from t", None),
        )
        session.engine.check()

    def test_references_to_several_tables(self):
        session = session_with(
            "create table p (a int, primary key (a))", "create table r (a int, primary key (a))",
            "create table q (x int, y int, foreign key (x) references p (a), foreign key (y) references r (a))",
            "insert into p values (1), (2)", "insert into r values (1), (2)", "insert into q values (1, 2)")
        for text, fault in (
            ("delete from p where a = 1", "ConstraintFault"), ("delete from r where a = 2", "ConstraintFault"),
            ("delete from p where a = 2", None), ("delete from r where a = 1", None),
            ("update q set x = 2", "ConstraintFault"),
        ):
            self.assertEqual(fault_of(session, text), fault, text)

    def test_refused_changes_within_transactions_leave_nothing(self):
        session = session_with(
            "create table t (a int, b int, c int, primary key (a), unique (c), foreign key (b) references t (a), check (c > 0))")
        session.run("insert into t values (1, null, 1), (2, 1, 2)")
        session.run("begin")
        session.run("insert into t values (3, 2, 3)")
        rows = ((1, None, 1), (2, 1, 2), (3, 2, 3))
        for text in (
            "delete from t where a = 1", "delete from t where a < 3", "insert into t values (4, 9, 4)",
            "insert into t values (5, null, 5), (6, null, 0)", "update t set c = c - 1", "update t set a = a + 1",
        ):
            self.assertEqual(fault_of(session, text), "ConstraintFault", text)
            self.assertEqual(session.run("select * from t").rows, rows, text)
            self.assertEqual(session.run("select a from t where c = 5 or a = 4").rows, ())
        session.run("insert into t values (4, null, 4), (5, 5, 5)")
        session.run("commit")
        self.assertEqual(session.run("select count(*) from t").rows, ((5,),))
        session.engine.check()

    def test_references_within_transactions(self):
        session = self.session
        session.run("begin")
        self.check(("insert into q values (7, null, null)", "ConstraintFault"),
            ("insert into p values (7, 'w', 70)", None), ("insert into q values (7, 70, 'w')", None),
                   ("delete from p where a = 7", "ConstraintFault"), ("delete from q", None),
                   ("delete from p where a = 7", None), ("commit", None))

    def test_other_columns_of_a_longer_key(self):
        session = session_with("create table p (a int, b int, primary key (b, a))",
            "create table q (x int, y int, z int, primary key (x), foreign key (x, z) references p (a, b))",
                               "insert into p values (1, 2), (2, 1)", "insert into q values (1, 0, 2)")
        for text, fault in (
            ("insert into q values (2, 0, 2)", "ConstraintFault"), ("delete from p where a = 2", None),
            ("delete from p where b = 2", "ConstraintFault"),
            ("update p set a = a, b = b", None), ("update p set a = b, b = a", "ConstraintFault"),
        ):
            self.assertEqual(fault_of(session, text), fault, text)


class SizeTest(unittest.TestCase):
    """Rows and index keys that need exactly as many bytes as a cell of 47 bytes has, and one more."""

    def test_rows(self):
        # 4 and 8 bytes beside the row's key; the record has 1 byte, 2 for the number, 2 beside the text's characters.
        for rule, beside_text in (("", 4 + 9 + 8 + 5), (", primary key (a)", 4 + 9 + 8 + 5)):
            session = session_with(f"create table t (a int, b text{rule})", size=200)
            most = 47 - beside_text
            self.assertEqual(fault_of(session, f"insert into t values (1, '{'x' * (most + 1)}')"), "ConstraintFault")
            self.assertEqual(fault_of(session, f"insert into t values (1, '{'x' * most}')"), None)
            self.assertEqual(fault_of(session, "update t set b = b || 'x'"), "ConstraintFault")
            self.assertEqual(fault_of(session, f"insert into t values (2, ''), (3, '{'x' * (most + 1)}')"),
                "ConstraintFault")
            self.assertEqual(session.run("select b from t").rows, (("x" * most,),))
            session.engine.check()
        session = session_with("create table t (a text, primary key (a))", size=200)
        # The text stands in the key, with 2 bytes, and in the record, with 3.
        self.assertEqual(fault_of(session, f"insert into t values ('{'x' * 16}')"), "ConstraintFault")
        self.assertEqual(fault_of(session, f"insert into t values ('{'x' * 15}')"), None)

    def test_index_keys(self):
        for rule in ("", ", primary key (a)"):
            for unique in ("", "unique "):
                for first in (True, False):
                    session = session_with(f"create table t (a int, b int, c int, d text{rule})", size=200)
                    # Two numbers of 9 bytes, the row's key of 9, 4 bytes, and 2 beside the text's characters.
                    fits, larger = "x" * 14, "x" * 15
                    make = f"create {unique}index i on t (b, d, c)"
                    if first:
                        session.run(make)
                        self.assertEqual(fault_of(session, f"insert into t values (1, 2, 3, '{larger}')"),
                            "ConstraintFault")
                        self.assertEqual(fault_of(session, f"insert into t values (1, 2, 3, '{fits}')"), None)
                        self.assertEqual(fault_of(session, f"insert into t values (2, 2, null, '{larger}')"), None)
                    else:
                        session.run(f"insert into t values (1, 2, 3, '{fits}'), (2, 2, 3, '{larger}')")
                        self.assertEqual(fault_of(session, make), "ConstraintFault")
                        session.run("delete from t where a = 2")
                        self.assertEqual(fault_of(session, make), None)
                    session.engine.check()

    def test_names(self):
        # The key of a letter and a name has 2 bytes more, 10 bytes are needed, too, and 4 are left at least.
        for size, most in ((96, 4), (100, 5), (200, 30)):
            name = "n" * most
            session = session_with("create table t (a int)", size=size)
            for text in ("create table {} (a int)", "create view {} as select 1", "create index {} on t (a)"):
                self.assertEqual(fault_of(session, text.format(name + "n")), "ConstraintFault", (size, text))
            for text in ("create table {} (a int)", "create index {} on t (a)"):
                self.assertEqual(fault_of(session, text.format(name)), None, (size, text))
            session.run(f"drop table {name}")
            self.assertEqual(fault_of(session, f"create view {name} as select 1"), None)
            self.assertEqual(fault_of(session, f"create table {'m' * (most - 1)} (a int, unique (a))"),
                "ConstraintFault")
            shown = session.engine.store.catalog.shown()
            self.assertEqual(reopened(session).engine.store.catalog.shown(), shown)
            session.engine.check()


if __name__ == "__main__":
    unittest.main()
