"""Point 18 through sessions: transactions, savepoints, conflicts, and what a transaction reads."""

import unittest

from tablestack.errors import ConflictFault, StateFault
from tests.databases import beside, fault_of, held, session_with

TABLES = (
    "create table t (a int, b int, primary key (a))", "create table u (c int, foreign key (c) references t (a))",
    "create table w (d int)",
    "create view v as select a from t where b > 0", "create view x as select * from v",
    "insert into t values (1, 1), (2, 2), (3, 0)", "insert into w values (1)",
)


class TransactionTest(unittest.TestCase):
    def setUp(self):
        self.one = session_with(*TABLES)
        self.other = beside(self.one)

    def rows(self, session, text="select a from t"):
        return [row[0] for row in session.run(text).rows]

    def test_rows_as_they_were_at_the_begin(self):
        self.one.run("begin")
        self.assertIsNotNone(self.one.transaction)
        self.one.run("insert into t values (4, 4)")
        self.assertEqual((self.rows(self.one), self.rows(self.other)), ([1, 2, 3, 4], [1, 2, 3]))
        self.other.run("delete from w")
        self.assertEqual((self.rows(self.one, "select d from w"), self.rows(self.other, "select d from w")), ([1], []))
        self.other.run("begin")
        self.one.run("delete from t where a = 1")
        self.one.run("update t set b = 9 where a = 2")
        self.assertEqual((self.rows(self.one, "select a from x"), self.rows(self.other, "select a from x")),
            ([2, 4], [1, 2]))
        self.one.run("rollback")
        self.assertEqual((self.rows(self.one), self.one.transaction, self.rows(self.one, "select d from w")),
            ([1, 2, 3], None, []))
        self.one.run("begin")
        self.one.run("delete from t where a = 1")
        self.one.run("commit")
        self.assertEqual((self.rows(self.one), self.rows(self.other)), ([2, 3], [1, 2, 3]))
        self.other.run("commit")
        self.assertEqual(self.rows(self.other), [2, 3])

    def test_wrong_places(self):
        for text in ("commit", "rollback", "savepoint s", "rollback to s", "release s"):
            self.assertEqual(fault_of(self.one, text), "StateFault", text)
        self.one.run("begin")
        for text in ("begin", "rollback to s", "release s"):
            self.assertEqual(fault_of(self.one, text), "StateFault", text)
        self.one.run("insert into w values (5)")
        self.assertEqual(fault_of(self.one, "begin"), "StateFault")
        self.one.run("commit")
        self.assertEqual(self.rows(self.one, "select d from w"), [1, 5])
        self.assertEqual(fault_of(self.one, "commit"), "StateFault")
        self.one.run("begin")
        self.one.run("savepoint s")
        self.one.run("rollback")
        self.one.run("begin")
        self.assertEqual(fault_of(self.one, "rollback to s"), "StateFault")

    def test_failed_statements_change_nothing(self):
        self.one.run("begin")
        self.one.run("insert into t values (4, 4)")
        for text in ("insert into t values (5, 5), (4, 4)", "insert into u values (1), (9)", "update t set a = 1",
            "selec", "select z from t", "begin"):
            self.assertIsNotNone(fault_of(self.one, text))
            self.assertEqual((self.rows(self.one), self.rows(self.one, "select c from u")), ([1, 2, 3, 4], []))
        self.one.run("insert into u values (4)")
        self.assertEqual(fault_of(self.one, "delete from t"), "ConstraintFault")
        self.one.run("commit")
        self.assertEqual((self.rows(self.other), self.rows(self.other, "select c from u")), ([1, 2, 3, 4], [4]))

    def test_statements_by_themselves(self):
        stamp = self.one.engine.stamp
        for text, more in (("select a from t", 0), ("insert into w values (2)", 1),
            ("insert into w select a from t where a > 9", 0), ("analyze t", 0),
                           ("explain select 1", 0), ("update w set d = d", 1), ("delete from w where d = 99", 0)):
            self.one.run(text)
            stamp += more
            self.assertEqual((self.one.engine.stamp, self.one.engine.active), (stamp, []), text)

    def test_ended_by_the_engine(self):
        self.one.run("begin")
        self.one.engine.rollback(self.one.transaction)
        for text in ("commit", "rollback"):
            self.assertEqual(fault_of(self.one, text), "StateFault")


class SavepointTest(unittest.TestCase):
    def setUp(self):
        self.session = session_with("create table w (d int)")
        self.session.run("begin")

    def run_all(self, texts):
        for text in texts.split("; "):
            self.session.run(text)

    def check(self, *rows):
        self.assertEqual(self.session.run("select d from w").rows, tuple((row,) for row in rows))

    def test_going_back(self):
        self.run_all("insert into w values (1); savepoint s; insert into w values (2); update w set d = d + 10")
        self.check(11, 12)
        self.run_all("rollback to s")
        self.check(1)
        self.run_all("insert into w values (3); rollback to s; insert into w values (4); savepoint s; delete from w; rollback to s")
        self.check(1, 4)
        self.run_all("commit")
        self.check(1, 4)

    def test_savepoints_within_each_other(self):
        self.run_all("savepoint a; insert into w values (1); savepoint b; insert into w values (2); savepoint c; insert into w values (3)")
        self.run_all("rollback to b")
        self.check(1)
        self.assertEqual(fault_of(self.session, "rollback to c"), "StateFault")
        self.run_all("insert into w values (4); rollback to b; release a")
        self.check(1)
        for text in ("rollback to a", "rollback to b", "release a", "release b"):
            self.assertEqual(fault_of(self.session, text), "StateFault", text)

    def test_savepoints_of_one_name(self):
        self.run_all("savepoint s; insert into w values (1); savepoint s; insert into w values (2); savepoint s; insert into w values (3); rollback to s")
        self.check(1, 2)
        self.run_all("release s; insert into w values (4); rollback to s")
        self.check(1)
        self.run_all("release s; rollback to s")
        self.check()
        self.run_all("release s")
        self.assertEqual(fault_of(self.session, "rollback to s"), "StateFault")

    def test_releasing(self):
        self.run_all("savepoint a; insert into w values (1); savepoint b; insert into w values (2); release b")
        self.check(1, 2)
        self.assertEqual(fault_of(self.session, "release b"), "StateFault")
        self.run_all("savepoint c; insert into w values (3); rollback to a")
        self.check()
        self.run_all("insert into w values (5); commit")
        self.check(5)

    def test_unique_values_and_keys_come_back(self):
        session = self.session = session_with("create table t (a int, b int, primary key (a), unique (b))",
            "insert into t values (1, 1)", "begin")
        self.run_all("insert into t values (2, 2); savepoint s; update t set b = b + 5; delete from t where a = 2; rollback to s")
        for text, fault in (("insert into t values (3, 2)", "ConstraintFault"),
            ("insert into t values (2, 3)", "ConstraintFault"), ("insert into t values (3, 1)", "ConstraintFault"),
                            ("insert into t values (3, 6), (4, 7)", None),
                            ("update t set b = 1 where a = 3", "ConstraintFault")):
            self.assertEqual(fault_of(session, text), fault, text)
        self.run_all("rollback to s; insert into t values (3, 6); commit")
        self.assertEqual(session.run("select * from t").rows, ((1, 1), (2, 2), (3, 6)))
        session.engine.check()


class ConflictTest(unittest.TestCase):
    """A transaction's statements, a change by another session, and whether the commit is refused."""

    def check(self, texts, change, refused):
        one = session_with(*TABLES)
        other = beside(one)
        one.run("begin")
        for text in texts:
            fault_of(one, text)
        before = held(one.engine)
        if change is not None:
            other.run(change)
            before = held(one.engine)
        if refused:
            self.assertRaises(ConflictFault, one.run, "commit")
            self.assertEqual((held(one.engine), one.engine.active, one.transaction), (before, [], None), texts)
            self.assertRaises(StateFault, one.run, "rollback")
        else:
            one.run("commit")
        one.run("insert into w values (50)")
        one.engine.check()

    def test_what_statements_name(self):
        change = "insert into w values (9)"
        for reads in (
            "select * from t", "select * from v", "select * from x", "select 1 from w, t",
            "select (select max(a) from t)", "select 1 where exists (select * from x)",
            "select * from (select a from t) s", "explain select * from t", "analyze t",
            "update t set a = a where a > 99", "delete from t where a > 99",
            "insert into t select a, b from t where a > 99", "insert into w select a from t where a > 99",
            "update w set d = (select a from t where a > 99) where d > 99",
            "delete from w where d in (select a from v where a > 99)", "select a from t union select d from w",
            "select count(*) from w group by d having d in (select a from t)",
            "select d from w order by (select min(a) from t)", "select a from t limit 0",
        ):
            self.check((reads, change), "update t set b = b where a = 1", True)
            self.check((change, reads), "update t set b = b where a = 1", True)
            self.check((reads,), "update t set b = b where a = 1", False)
            self.check((reads, change), "update t set b = b where a = 99", False)
            self.check((reads, change), None, False)
            self.check((reads, change), "insert into w values (9)", True)

    def test_what_failed_statements_name(self):
        change = "insert into w values (9)"
        for reads in (
            "select z from t", "select * from t, nobody", "select a + 'x' from x", "insert into t values (1, 1)",
            "insert into t values (1)", "update t set a = null",
            "select a from t union select a, b from t", "insert into v values (1)", "create index i on t (b)",
            "drop table t", "create view y as select * from v",
            "delete from t where z = 1", "analyze v", "create table y (a int, foreign key (a) references t (a))",
            "create table t (z int)", "drop view v", "create view t as select 1",
        ):
            self.check((reads, change), "update t set b = b where a = 1", True)
        for reads in ("selec * from t", "select * from t where", "select 1", "drop index t"):
            self.check((reads, change), "update t set b = b where a = 1", False)

    def test_checks_with_queries(self):
        one = session_with(*TABLES, "create table y (a int, check (a in (select d from w)))")
        other = beside(one)
        one.run("begin")
        one.run("insert into y values (1)")
        other.run("delete from w")
        self.assertRaises(ConflictFault, one.run, "commit")

    def test_references_either_way(self):
        for texts, change in (
            (("insert into u values (1)",), "update t set b = 5 where a = 3"),
            (("insert into u values (null)",), "insert into t values (7, 7)"),
            (("update t set b = 5 where a = 3",), "insert into u values (1)"),
            (("delete from t where a = 3",), "insert into u values (null)"),
            (("insert into t values (8, 8)",), "insert into u values (1)"),
            (("delete from u where c = 99", "insert into w values (1)"), "update t set b = b"),
        ):
            self.check(texts, change, True)
        for texts, change in (
            (("select * from t", "insert into w values (1)"), "insert into u values (1)"),
            (("select * from u", "insert into w values (1)"), "update t set b = b"),
            (("insert into u values (1)",), "insert into w values (1)"), (("update t set b = 5",), "delete from w"),
            (("analyze t", "insert into w values (1)"), "insert into u values (1)"),
        ):
            self.check(texts, change, False)

    def test_rows_that_were_changed(self):
        change = "update t set b = b where a = 1"
        for texts, refused in (
            (("update t set b = b where a = 2",), True), (("insert into t values (9, 9)", "delete from t where a = 9"),
                True), (("delete from t where a = 99",), False),
            (("savepoint s", "insert into t values (9, 9)", "rollback to s"), False),
            (("insert into t values (8, 8)", "savepoint s", "insert into t values (9, 9)", "rollback to s"), True),
            (("savepoint s", "insert into t values (9, 9)", "delete from t where a = 9", "release s"), True),
            (("savepoint s", "select * from t", "rollback to s"), False),
            (("savepoint s", "select * from t", "rollback to s", "insert into w values (1)"), True),
            (("insert into t values (9, 9)", "rollback", "begin"), False),
            (("insert into t values (1, 1)",), False),
        ):
            self.check(texts, change, refused)

    def test_only_commits_since_the_begin_count(self):
        one = session_with(*TABLES)
        other = beside(one)
        other.run("update t set b = b")
        one.run("begin")
        one.run("select * from t")
        other.run("begin")
        other.run("update t set b = b")
        other.run("rollback")
        other.run("begin")
        other.run("insert into t values (9, 9)")
        one.run("insert into w values (2)")
        one.engine.vacuum()
        one.run("commit")
        other.run("commit")
        self.assertEqual(one.run("select count(*) from t, w").rows, ((8,),))

    def test_put_and_deleted_again_counts_for_others(self):
        one = session_with(*TABLES)
        other = beside(one)
        one.run("begin")
        one.run("update t set b = 7 where a = 1")
        other.run_script("begin; insert into t values (9, 9); delete from t where a = 9; commit")
        self.assertEqual((fault_of(one, "commit"), one.run("select * from t").rows),
            ("ConflictFault", ((1, 1), (2, 2), (3, 0))))


class OpenTransactionTest(unittest.TestCase):
    def test_changes_of_the_catalog(self):
        texts = ("create table y (a int)", "create index i on t (b)", "create view y as select 1", "drop view x",
            "drop index j", "drop table u", "drop table nobody", "create table t (a int)")
        for opener in (0, 1):
            sessions = [session_with(*TABLES, "create index j on t (b)")]
            sessions.append(beside(sessions[0]))
            sessions[opener].run("begin")
            before = (held(sessions[0].engine), sessions[0].engine.stamp)
            for text in texts:
                self.assertEqual(fault_of(sessions[0], text), "StateFault", text)
                self.assertEqual((held(sessions[0].engine), sessions[0].engine.stamp), before)
            self.assertIsNotNone(sessions[opener].transaction)
            sessions[opener].run("commit")
            for text in texts[:6]:
                self.assertIsNone(fault_of(sessions[0], text) if text != "create view y as select 1" else None, text)


if __name__ == "__main__":
    unittest.main()
