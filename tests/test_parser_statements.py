"""Points 4, 5 and 19: the grammar and the trees of queries and statements."""

import unittest

from tablestack.errors import TextError
from tablestack.parser import parse, parse_script

A, B, C = [("col", None, name) for name in "abc"]
ONE, TWO = ("int", 1), ("int", 2)
T, U, V = [("table", name, name) for name in "tuv"]
EQUAL = ("cmp", "=", A, B)


def select(*items, distinct=False, source=None, where=None, groups=(), having=None):
    return ("select", distinct, tuple((item, None) for item in items), source, where, groups, having)


def query(body, orders=(), limit=None, offset=0):
    return ("query", body, orders, limit, offset)


class StatementTest(unittest.TestCase):
    def check(self, cases):
        for text, tree in cases:
            self.assertEqual(parse(text), tree, text)
            self.assertEqual(parse(text + " ;"), tree, text)
            self.assertEqual(parse(text.upper()), tree, text)
            self.assertEqual(parse_script(text), (tree,), text)

    def refuse(self, texts):
        for text in texts:
            for read in (parse, parse_script):
                with self.assertRaises(TextError, msg=text):
                    read(text)


class SelectTest(StatementTest):
    def test_items(self):
        self.check((("select 1", query(select(ONE))), ("select a, b", query(select(A, B))),
                    ("select distinct a", query(select(A, distinct=True))),
                    ("select a as x, b", query(("select", False, ((A, "x"), (B, None)), None, None, (), None))),
                    ("select *", query(("select", False, (("star", None),), None, None, (), None))),
                    ("select t.*, a, * from t", query(
                        ("select", False, (("star", "t"), (A, None), ("star", None)), T, None, (), None))),
                    ("select a = b", query(select(EQUAL)))))
        for text in ("", " ", "-- a"):
            with self.assertRaises(TextError):
                parse(text)
        self.refuse((";", "select", "select from t", "select a,", "select ,a", "select a,, b", "select a b c from t",
                     "select distinct", "select distinct distinct a", "select a as", "select a as 1", "select as a",
                     "select a as b as c", "select * as a", "select t.* as a", "select a. from t", "select (a, b)",
                     "select *, from t", "select * *", "select a from", "a", "1", "selec a", "select a as select"))

    def test_sources(self):
        left = ("join", True, T, U, EQUAL)
        self.check((("select a from t", query(select(A, source=T))),
                    ("select a from t as x", query(select(A, source=("table", "t", "x")))),
                    ("select a from t, u", query(select(A, source=("join", False, T, U, None)))),
                    ("select a from t join u on a = b", query(select(A, source=("join", False, T, U, EQUAL)))),
                    ("select a from t left join u on a = b", query(select(A, source=left))),
                    ("select a from t left join u on a = b join v on a = b",
                     query(select(A, source=("join", False, left, V, EQUAL)))),
                    ("select a from t, u, v", query(select(A, source=("join", False, ("join", False, T, U, None), V, None)))),
                    ("select a from (select 1) as x", query(select(A, source=("sub", query(select(ONE)), "x")))),
                    ("select a from t join (select 1) as x on a = b",
                     query(select(A, source=("join", False, T, ("sub", query(select(ONE)), "x"), EQUAL)))),
                    ("select a from ((select 1) union select 2) as x", query(select(
                        A, source=("sub", query(("union", False, select(ONE), select(TWO))), "x"))))))
        self.refuse(("select a from t,", "select a from , t", "select a from t join u", "select a from t join on a = b",
                     "select a from t left u on a = b", "select a from t join u on", "select a from join u on a = b",
                     "select a from (select 1)", "select a from (select 1 as x", "select a from select 1 as x",
                     "select a from t join u where a", "select a from t on a = b", "select a from t, u on a = b",
                     "select a from t as", "select a from t as x y", "select a from 1", "select a from 't'", "select a from t.u",
                     "select a from (select 1) as x)", "select a from left join u on a = b", "select a from t join left u on a",
                     "select a from t,, u", "select a from t join u on a = b on a = b", "select a from t join join u on a"))

    def test_short_forms(self):
        self.check((("select a from t x, u y", query(
            select(A, source=("join", False, ("table", "t", "x"), ("table", "u", "y"), None)))),
                    ("select a from (select 1) x", query(select(A, source=("sub", query(select(ONE)), "x")))),
                    ("select a order by a asc, b desc", query(select(A), ((A, False), (B, True))))))
        self.refuse(("select a from t x y", "select a order by a asc desc", "select a order by asc"))

    def test_brackets_in_sources(self):
        one = ("sub", query(select(ONE)), "x")
        inner = ("join", False, one, U, EQUAL)
        self.check((("select a from t join (u join v on a = b) on a = b", query(
            select(A, source=("join", False, T, ("join", False, U, V, EQUAL), EQUAL)))),
                    ("select a from ((select 1)) as x", query(select(A, source=one))),
                    ("select a from (((select 1))) as x", query(select(A, source=one))),
                    ("select a from (((select 1) union select 2) limit 1) as x", query(select(
                        A, source=("sub", query(("union", False, select(ONE), select(TWO)), (), 1), "x")))),
                    ("select a from t, ((select 1) as x join u on a = b)", query(
                        select(A, source=("join", False, T, inner, None)))),
                    ("select a from (((select 1)) as x, t)", query(select(A, source=("join", False, one, T, None))))))
        self.refuse(("select a from (t)", "select a from ((t, u)", "select a from (t, u", "select a from (t, u))", "select a from ()",
                     "select a from (t as x)", "select a from ((select 1) as x)", "select a from (t, u) as x",
                     "select a from ((select 1)", "select a from ((select 1", "select a from (t join u) on a = b"))

    def test_clauses(self):
        self.check((("select a from t where a = b", query(select(A, source=T, where=EQUAL))),
                    ("select 1 where a = b", query(select(ONE, where=EQUAL))),
                    ("select a from t group by a, b", query(select(A, source=T, groups=(A, B)))),
                    ("select a from t group by a having a = b", query(select(A, source=T, groups=(A,), having=EQUAL))),
                    ("select a from t having a = b", query(select(A, source=T, having=EQUAL))),
                    ("select a from t where a group by b having c order by a desc, 2 limit 3 offset 4", query(
                        select(A, source=T, where=A, groups=(B,), having=C), ((A, True), (TWO, False)), 3, 4))))
        self.refuse(("select a where", "select a from t where a, b", "select a group a", "select a by a", "select a group by",
                     "select a group by a,", "select a group by a b", "select a having", "select a from t group by a where b",
                     "select a having b group by a", "select a where b where c", "select a where b from t",
                     "select a from t from u", "select a having b having c", "select a where group by b"))

    def test_orders_and_limits(self):
        self.check((("select a order by a", query(select(A), ((A, False),))),
                    ("select a order by a desc, b", query(select(A), ((A, True), (B, False)))),
                    ("select a order by a + b desc", query(select(A), ((("op", "+", A, B), True),))),
                    ("select a limit 0", query(select(A), (), 0)), ("select a limit 5", query(select(A), (), 5)),
                    ("select a offset 5", query(select(A), (), None, 5)),
                    ("select a limit 1 offset 2", query(select(A), (), 1, 2)),
                    ("select a limit 1 offset 0", query(select(A), (), 1, 0))))
        self.refuse(("select a order a", "select a by a", "select a order by", "select a order by a,", "select a order by desc",
                     "select a order by a b", "select a order by a desc desc", "select a limit", "select a limit -1",
                     "select a limit a", "select a limit 1 + 1", "select a limit 'x'", "select a limit 1 limit 2",
                     "select a offset 1 limit 2", "select a offset", "select a offset -1", "select a limit 1, 2",
                     "select a limit 1 order by a", "select a limit (1)", "select a limit null", "select a desc"))

    def test_combinations(self):
        one, two, three = [select(("int", number)) for number in (1, 2, 3)]
        for word in ("union", "except", "intersect"):
            self.check(((f"select 1 {word} select 2", query((word, False, one, two))),
                        (f"select 1 {word} all select 2", query((word, True, one, two))),
                        (f"(select 1) {word} (select 2)", query((word, False, one, two))),
                        (f"select 1 {word} (select 2 {word} select 3)", query((word, False, one, (word, False, two, three)))),
                        (f"select 1 {word} select 2 {word} all select 3", query((word, True, (word, False, one, two), three)))))
        self.check((("select 1 union select 2 intersect select 3",
                     query(("union", False, one, ("intersect", False, two, three)))),
                    ("select 1 intersect select 2 except select 3",
                     query(("except", False, ("intersect", False, one, two), three))),
                    ("(select 1 union select 2) intersect select 3",
                     query(("intersect", False, ("union", False, one, two), three))),
                    ("select 1 except select 2 union select 3",
                     query(("union", False, ("except", False, one, two), three))),
                    ("select 1 union select 2 order by 1 limit 2",
                     query(("union", False, one, two), ((ONE, False),), 2)),
                    ("(select 1)", query(one)), ("((select 1) union select 2)", query(("union", False, one, two))),
                    ("(select 1) order by 1", query(one, ((ONE, False),)))))
        self.refuse(("select 1 union", "union select 1", "select 1 union union select 2", "select 1 all select 2",
                     "select 1 union all all select 2", "select 1 select 2", "select 1 union 2", "(select 1", "select 1)",
                     "(select 1) (select 2)", "select 1 order by 1 union select 2", "select 1 union (select 2 order by 1)",
                     "(select 1 limit 1) union select 2", "select 1, union select 2", "select 1 intersect except select 2", "()",
                     "(1)", "select 1 union (select 2"))

    def test_explain(self):
        self.check((("explain select 1", ("explain", query(select(ONE)))),
                    ("explain select 1 union select 2 limit 1",
                     ("explain", query(("union", False, select(ONE), select(TWO)), (), 1)))))
        self.refuse(("explain", "explain explain select 1", "explain delete from t", "explain (1)", "explain t"))


class ChangeTest(StatementTest):
    def test_insert(self):
        self.check((("insert into t values (1)", ("insert", "t", None, ("rows", ((ONE,),)))),
                    ("insert into t values (1, a), (b, 2)", ("insert", "t", None, ("rows", ((ONE, A), (B, TWO))))),
                    ("insert into t (a, b) values (1, 2)", ("insert", "t", ("a", "b"), ("rows", ((ONE, TWO),)))),
                    ("insert into t select 1", ("insert", "t", None, query(select(ONE)))),
                    ("insert into t (a) select 1 limit 1", ("insert", "t", ("a",), query(select(ONE), (), 1))),
                    ("insert into t (select 1)", ("insert", "t", None, query(select(ONE)))),
                    ("insert into t (a) (select 1) union select 2",
                     ("insert", "t", ("a",), query(("union", False, select(ONE), select(TWO)))))))
        self.refuse(("insert t values (1)", "insert into values (1)", "insert into t", "insert into t values", "into t values (1)",
                     "insert into t values ()", "insert into t values 1", "insert into t values (1", "insert into t values 1)",
                     "insert into t values (1,)", "insert into t values (1) (2)", "insert into t values (1),",
                     "insert into t values (1 2)", "insert into t () values (1)", "insert into t (a,) values (1)",
                     "insert into t (a b) values (1)", "insert into t a values (1)", "insert into t (1) values (1)",
                     "insert into t (a) (b) values (1)", "insert into t values (1), values (2)", "insert into t value (1)",
                     "insert t into values (1)", "insert into t (t.a) values (1)", "insert into t values (1) select 1",
                     "insert into t values ((1)", "insert into t, u values (1)", "insert into t (a", "insert into t (a)"))

    def test_update(self):
        self.check((("update t set a = 1", ("update", "t", (("a", ONE),), None)),
                    ("update t set a = b + 1, b = 2 where a = b",
                     ("update", "t", (("a", ("op", "+", B, ONE)), ("b", TWO)), EQUAL)),
                    ("update t set a = b = c", ("update", "t", (("a", ("cmp", "=", B, C)),), None))))
        self.refuse(("update t", "update set a = 1", "update t set", "update t set a", "update t set a =", "update t set a 1",
                     "update t set a = 1,", "update t set a = 1 b = 2", "update t set a = 1 and where b", "update t a = 1",
                     "update t set a = 1 where", "update t set where a = 1", "update t set (a) = 1", "update t set t.a = 1",
                     "update t set a = 1 set b = 2", "update t, u set a = 1", "set a = 1", "update t set a = 1, where a"))

    def test_delete(self):
        self.check((("delete from t", ("delete", "t", None)), ("delete from t where a = b", ("delete", "t", EQUAL))))
        self.refuse(("delete", "delete t", "delete from", "delete from t where", "delete from t a", "delete from t, u",
                     "delete from t where a where b", "delete where a from t", "delete * from t", "delete from (t)"))


class DeclarationTest(StatementTest):
    def test_columns(self):
        self.check((("create table t (a int)", ("create_table", "t", (("a", "int", False, None),), ())),
                    ("create table t (a int not null, b text default 'X')",
                     ("create_table", "t", (("a", "int", True, None), ("b", "text", False, ("text", "X"))), ())),
                    ("create table t (a text not null default 'X', b int default -5, c int default null)",
                     ("create_table", "t", (("a", "text", True, ("text", "X")), ("b", "int", False, ("int", -5)),
                                            ("c", "int", False, ("null",))), ()))))
        self.refuse(("create table t", "create table (a int)", "create t (a int)", "table t (a int)", "create table t ()",
                     "create table t a int", "create table t (a)", "create table t (int)", "create table t (a int",
                     "create table t (a int,)", "create table t (a int b text)", "create table t (a int,, b text)",
                     "create table t (a int))", "create table t (a number)", "create table t (a 'int')", "create table t (a int not)",
                     "create table t (a int null)", "create table t (a int not null not null)", "create table t (a int default)",
                     "create table t (a int not default 1)", "create table t (a not null int)", "create table t a int)",
                     "create table t (a int default 1 default 2)", "create table t (a int text)", "create table t.u (a int)"))

    def test_defaults_are_no_longer_than_literals(self):
        for default in ("1 + 1", "'a' || 'b'", "1 = 1", "(1 + 1)", "count(*)", "(select 1)", "1 * 2", "1 is null",
                        "case when 1 = 1 then 1 else 2 end", "1 2", "- - 1", "not 1"):
            self.refuse((f"create table t (a int default {default})", f"create table t (a int default {default}, b int)"))

    def test_rules(self):
        column = (("a", "int", False, None),)
        self.check((("create table t (a int, primary key (a))", ("create_table", "t", column, (("primary", ("a",)),))),
                    ("create table t (a int, primary key (a, b))", ("create_table", "t", column, (("primary", ("a", "b")),))),
                    ("create table t (a int, unique (a), unique (b, a))",
                     ("create_table", "t", column, (("unique", ("a",)), ("unique", ("b", "a"))))),
                    ("create table t (a int, foreign key (a, b) references u (c, d))",
                     ("create_table", "t", column, (("foreign", ("a", "b"), "u", ("c", "d")),))),
                    ("create table t (a int, check (a = b))", ("create_table", "t", column, (("check", EQUAL),))),
                    ("create table t (check (a = b), a int, unique (a), b text, primary key (b))",
                     ("create_table", "t", (*column, ("b", "text", False, None)),
                      (("check", EQUAL), ("unique", ("a",)), ("primary", ("b",)))))))
        self.refuse(("create table t (a int, primary (a))", "create table t (a int, key (a))", "create table t (a int, primary key a)",
                     "create table t (a int, primary key ())", "create table t (a int, primary key (a,))",
                     "create table t (a int, primary key (a b))", "create table t (a int, unique)",
                     "create table t (a int, unique a)", "create table t (a int primary key (a))",
                     "create table t (a int, foreign (a) references u (b))", "create table t (a int, foreign key (a) u (b))",
                     "create table t (a int, foreign key (a) references (b))", "create table t (a int, foreign key references u (b))",
                     "create table t (a int, foreign key (a) references u)", "create table t (a int, check a = b)",
                     "create table t (a int, check ())", "create table t (a int, check (a = b)", "create table t (a int, check (a, b))",
                     "create table t (a int, primary key (a)) primary key (b)", "create table t (a int, primary key (1))",
                     "create table t (a int, key primary (a))", "create table t (a int, references u (b) foreign key (a))"))

    def test_indexes_and_views(self):
        self.check((("create index i on t (a)", ("create_index", False, "i", "t", ("a",))),
                    ("create unique index i on t (a, b)", ("create_index", True, "i", "t", ("a", "b"))),
                    ("create view v as select 1", ("create_view", "v", query(select(ONE)))),
                    ("create view v as select 1 union select 2 limit 3",
                     ("create_view", "v", query(("union", False, select(ONE), select(TWO)), (), 3)))))
        self.refuse(("create", "create index on t (a)", "create index i t (a)", "create index i on (a)", "create index i on t",
                     "create index i on t ()", "create index i on t a", "create index i on t (a,)", "create index i on t (a + 1)",
                     "create unique i on t (a)", "create index unique i on t (a)", "create unique unique index i on t (a)",
                     "create unique table t (a int)", "create unique view v as select 1", "create view v select 1",
                     "create view as select 1", "create view v as", "create view v as t", "create view v (a) as select 1",
                     "create view v as delete from t", "create index i on t (a) (b)", "create index i, j on t (a)"))

    def test_drops(self):
        self.check((("drop table t", ("drop_table", "t")), ("drop index i", ("drop_index", "i")),
                    ("drop view v", ("drop_view", "v")), ("analyze t", ("analyze", "t"))))
        self.refuse(("drop", "drop t", "drop table", "drop table t, u", "drop table (t)", "drop table 1", "drop unique index i",
                     "drop view", "drop index", "analyze", "analyze t u", "analyze table t", "drop table t.u", "drop table table"))


class TransactionTest(StatementTest):
    def test_statements(self):
        self.check((("begin", ("begin",)), ("commit", ("commit",)), ("rollback", ("rollback",)),
                    ("savepoint s", ("savepoint", "s")), ("rollback to s", ("rollback_to", "s")), ("release s", ("release", "s"))))
        self.refuse(("begin begin", "begin t", "commit 1", "rollback s", "rollback to", "to s", "savepoint", "savepoint 1",
                     "release", "release to s", "savepoint s t", "rollback to s, t", "rollback to to s", "savepoint to"))

    def test_semicolons(self):
        self.assertEqual(parse("begin;"), ("begin",))
        for text in (";begin", "begin;;", "begin; ;", "begin; commit", "begin;commit;"):
            with self.assertRaises(TextError, msg=text):
                parse(text)


class ScriptTest(unittest.TestCase):
    def test_scripts(self):
        self.assertEqual(parse_script("begin; commit"), (("begin",), ("commit",)))
        self.assertEqual(parse_script("begin; commit;"), (("begin",), ("commit",)))
        self.assertEqual(parse_script("begin -- ; x\n;\n drop table t;release s ;"),
                         (("begin",), ("drop_table", "t"), ("release", "s")))
        self.assertEqual(parse_script("select ';' ; commit"), (query(select(("text", ";"))), ("commit",)))

    def test_wrong_scripts(self):
        for text in (";", "begin commit", "begin;; commit", "begin; commit;;", "; begin", "begin, commit", "begin; select",
                     "begin; (commit)", "select 1 begin", "begin; 'x", "begin; ?"):
            with self.assertRaises(TextError, msg=text):
                parse_script(text)


if __name__ == "__main__":
    unittest.main()
