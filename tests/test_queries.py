"""Points 7, 10 and 16 through sessions: orders, the ways that statistics choose, and which pages a query reads."""

import unittest

from tablestack.server import Options
from tests.databases import beside, reopened, session_with

T = "create table t (a int, b int, c text, primary key (a))"


def explained(session, text):
    return [row[0].strip() for row in session.run(f"explain {text}").rows]


class OrderTest(unittest.TestCase):
    def test_orders(self):
        session = session_with(T,
            "insert into t values (3, 1, 'x'), (1, 2, null), (2, 1, 'y'), (4, null, 'x'), (5, 2, 'a')")
        for text, rows in (
            ("select * from t", ((1, 2, None), (2, 1, "y"), (3, 1, "x"), (4, None, "x"), (5, 2, "a"))),
            ("select b, a from t order by b desc", ((2, 1), (2, 5), (1, 2), (1, 3), (None, 4))),
            ("select a from t order by b desc, c limit 3", ((1,), (5,), (3,))),
            ("select a from t order by c, 1 limit 2 offset 1", ((5,), (3,))),
            ("select c, count(*), sum(b) from t group by c order by 2 desc, 1",
                (("x", 2, 1), (None, 1, 2), ("a", 1, 2), ("y", 1, 1))),
            ("select distinct b from t order by b desc limit 2", ((2,), (1,))),
            ("select b from t except all select 1", ((None,), (1,), (2,), (2,))),
            ("select x.a, y.a from t x left join t y on x.a = y.b order by 1 desc",
                ((5, None), (4, None), (3, None), (2, 1), (2, 5), (1, 2), (1, 3))),
            ("select (select a from t x where x.b = t.b) from t", ((None,), (1,), (1,), (2,), (2,))),
            ("select max(c), min(b), count(c) from t where a > 9", ((None, None, 0),)),
        ):
            self.assertEqual(session.run(text).rows, rows, text)
            for options in (Options(limit=1), Options(rules=(), joins=(), compiled=False),
                Options(indexed=False, reordered=False, joins=("merge",), limit=2)):
                self.assertEqual(beside(session, options).run(text).rows, rows, text)


class WayTest(unittest.TestCase):
    def test_summaries_choose_the_index(self):
        session = session_with(T, "create index i on t (b)", "create index j on t (c)")
        session.run("insert into t values " + ", ".join(f"({n}, {n}, '{'xy'[n % 2]}')" for n in range(20)))
        query = "select a from t where c = 'x' and b = 4"
        self.assertIn("range t by i = 4", explained(session, query))
        session.run("update t set b = a / 10, c = 'x' || case when a > 9 then 'y' else 'z' end")
        session.run("update t set c = 'n' where a = 4")
        self.assertIn("range t by i = 0", explained(session, "select a from t where c = 'n' and b = 0"))
        session.run("analyze t")
        self.assertIn("range t by j = 'n'", explained(session, "select a from t where c = 'n' and b = 0"))
        self.assertIn("range t by j = 'n'", explained(beside(session), "select a from t where c = 'n' and b = 0"))
        self.assertIn("range t by i >= 5", explained(session, "select a from t where c = 'n' and b >= 5"))
        self.assertEqual(session.run("select a from t where c = 'n' and b = 0").rows, ((4,),))
        session.run("delete from t where a < 0")
        self.assertIn("range t by j = 'n'", explained(session, "select a from t where c = 'n' and b = 0"))
        self.assertIn("range t by i = 0", explained(reopened(session), "select a from t where c = 'n' and b = 0"))

    def test_numbers_of_rows_order_joins(self):
        session = session_with("create table x (a int)", "create table y (b int)", "create table z (c int)",
            "insert into z values (1)")
        for name in "xy":
            session.run(f"insert into {name} values " + ", ".join(f"({n})" for n in range(30)))
        query = "select * from x, y, z where a = b and b = c"
        scans = lambda one: "".join(line[-1] for line in explained(one, query) if line.startswith("scan"))
        self.assertEqual((scans(session), scans(beside(session, Options(reordered=False)))), ("yzx", "xyz"))
        self.assertEqual(session.run(query).rows, ((1, 1, 1),))
        session.run("begin")
        session.run("delete from x where a <> 1")
        self.assertEqual((scans(session), scans(beside(session))), ("xzy", "yzx"))
        self.assertEqual(session.run(query).rows, ((1, 1, 1),))


class ReadTest(unittest.TestCase):
    def setUp(self):
        session = session_with("create table t (a int, b int, c int, d text, primary key (a))",
            "create index i on t (b)", "create table u (e int)", size=200, capacity=1)
        session.run("insert into t values " + ", ".join(f"({n}, {n * 2}, {n}, 'xxxxxxxxxx')" for n in range(300)))
        session.run("insert into u values " + ", ".join(f"({n})" for n in range(50)))
        session.engine.checkpoint()
        self.session = session
        self.trees = {name: tree for name, tree in session.engine.store.trees()}
        self.leaves = len(self.trees["t"].page_numbers())

    def reads(self, text, many):
        """Return how many pages a statement reads that has so many rows."""
        pool = self.session.engine.pager.pool
        before = pool.reads
        self.assertEqual(len(self.session.run(text).rows), many)
        return pool.reads - before

    def test_a_query_for_one_key(self):
        deep = {name: len(tree.path(())) for name, tree in self.trees.items()}
        self.assertGreater(self.leaves, 80)
        first = self.reads("select d from t where a = 150", 1)
        # The table is gone through once, to count its rows.
        self.assertTrue(self.leaves - 40 < first <= self.leaves + 2 * deep["t"], first)
        for key in (0, 77, 299, 1000):
            self.assertLessEqual(self.reads(f"select d from t where a = {key}", int(key < 300)), deep["t"] + 1)
            self.assertLessEqual(self.reads(f"select d from t where b = {key * 2}", int(key < 300)),
                deep["i"] + deep["t"] + 3)
        self.assertLessEqual(self.reads("select d from t where a >= 100 and a < 104", 4), deep["t"] + 4)
        self.assertLessEqual(self.reads("select d from t where b > 200 and b <= 204", 2), deep["i"] + 2 * deep["t"] + 4)
        self.assertGreater(self.reads("select d from t where c = 5", 1), self.leaves - 40)

    def test_a_change_of_one_row(self):
        self.session.run("select count(*) from t")
        for text in ("update t set c = 0 where a = 150", "delete from t where b = 40",
            "insert into t values (1000, 1, 1, '')"):
            pool = self.session.engine.pager.pool
            before = pool.reads
            self.assertEqual(self.session.run(text).changed, 1)
            self.assertLess(pool.reads - before, 60, text)
            self.session.engine.check()

    def test_a_query_within_a_transaction(self):
        self.session.run("begin")
        self.session.run("insert into u values (7)")
        self.session.run("select d from t where a = 3")
        self.assertLess(self.reads("select d from t where a = 150", 1), 10)
        self.session.run("commit")


if __name__ == "__main__":
    unittest.main()
