"""Point 20 and the console: lines, answers, faults' words, prepared statements."""

import unittest

from tablestack.console import (
    Console, answer_lines, fault_word, filled, literal_texts, normal_text, parameter_places, table_lines,
)
from tablestack.errors import (
    ConflictFault, ConstraintFault, DiskFault, KindFault, LogFault, NameFault, PageFault, PlanFault, RecordFault,
    StateFault,
    TableError, TextError, TreeFault,
)
from tablestack.server import Answer
from tests.databases import beside, held, session_with


class LinesTest(unittest.TestCase):
    def test_tables(self):
        for names, rows, lines in (
            (("a",), (), ["a", "-"]), (("a", "long"), (), ["a  long", "-  ----"]),
            (("a",), ((1,), (None,), (-12,)), ["a", "---", "1", "", "-12"]),
            (("n", "text"), ((1, "x"), (None, "long one"), (12345, None)),
                ["n      text", "-----  --------", "1      x", "       long one", "12345"]),
            (("a", "b", "c"), ((None, None, 1), (1, None, None)), ["a  b  c", "-  -  -", "      1", "1"]),
            (("a",), (("x  ",), ("  y",)), ["a", "---", "x", "  y"]),
            (("a", "b"), (("it's", 0), ("", None)), ["a     b", "----  -", "it's  0", ""]),
            (("a", "b"), (("x\ny", 1),), ["a    b", "---  -", "x\ny  1"]),
        ):
            self.assertEqual(table_lines(names, rows), lines)

    def test_answers(self):
        for answer, lines in (
            (Answer("select", ("a",), ((1,),), 0), ["a", "-", "1", "(1 row)"]),
            (Answer("select", ("a",), (), 0), ["a", "-", "(0 rows)"]),
            (Answer("select", ("a",), ((1,), (2,)), 0), ["a", "-", "1", "2", "(2 rows)"]),
            (Answer("insert", (), (), 1), ["insert 1"]),
            (Answer("update", (), (), 0), ["update 0"]), (Answer("delete", (), (), 30), ["delete 30"]),
            (Answer("explain", ("plan",), (("sort by 1",), ("  unit",)), 0), ["sort by 1", "  unit"]),
            (Answer("create_table", (), (), 0), ["create table"]),
            (Answer("create_index", (), (), 0), ["create index"]), (Answer("drop_view", (), (), 0), ["drop view"]),
            (Answer("rollback_to", (), (), 0), ["rollback to"]), (Answer("begin", (), (), 0), ["begin"]),
            (Answer("analyze", (), (), 0), ["analyze"]),
        ):
            self.assertEqual(answer_lines(answer), lines)

    def test_words_of_faults(self):
        for fault, word in (
            (TextError, "text"), (NameFault, "name"), (KindFault, "kind"), (ConstraintFault, "constraint"),
            (ConflictFault, "conflict"), (PlanFault, "plan"), (StateFault, "state"),
            (PageFault, "server"), (RecordFault, "server"), (LogFault, "server"), (DiskFault, "server"),
            (TreeFault, "server"), (TableError, "server"),
        ):
            self.assertEqual(fault_word(fault("why")), word)


class ParameterTest(unittest.TestCase):
    def test_places(self):
        for text, places in (
            ("", ()), ("?", (0,)), ("a ? b ?", (2, 6)), ("'?' ?", (4,)), ("'it''s ?' ?", (10,)), ("'?''?'?", (6,)),
            ("-- ?\n?", (5,)), ("? -- '\n ? '?", (0, 8)),
            ("'--' ?", (5,)), ("'-- ?\n' ?", (8,)), ("-? - -?", (1, 6)), ("? '", (0,)), ("' ?", ()), ("--?", ()),
            ("??", (0, 1)),
        ):
            self.assertEqual(parameter_places(text), places, text)
            self.assertIsInstance(parameter_places(text), tuple)

    def test_most(self):
        self.assertEqual(len(parameter_places("?" * 20)), 20)
        self.assertRaises(TextError, parameter_places, "?" * 21)
        self.assertEqual(len(parameter_places("?" * 20 + "'?' --?")), 20)

    def test_filled(self):
        for text, spots, values, wanted in (
            ("a", (), [], "a"), ("?", (0,), ["5"], "(5)"), ("a = ? and b = ?", (4, 14), ["-5", "'?'"],
                "a = (-5) and b = ('?')"), ("??", (0, 1), ["1", "null"], "(1)(null)"),
            ("'?' ?", (4,), ["'x'"], "'?' ('x')"),
        ):
            self.assertEqual(filled(text, spots, values), wanted)

    def test_literals(self):
        for text, texts in (
            ("", []), ("  \n", []), ("-- none", []), ("(1)", ["1"]), ("(1, -2, 'x', null)", ["1", "-2", "'x'", "null"]),
            (" ( - 5 ,NULL) -- more", ["-5", "null"]),
            ("('it''s', '')", ["'it''s'", "''"]), ("('a,b)', 9223372036854775807)", ["'a,b)'", "9223372036854775807"]),
            ("(007)", ["7"]), ("('\n')", ["'\n'"]),
        ):
            self.assertEqual(literal_texts(text), texts, text)

    def test_other_texts(self):
        for text in (
            "1", "()", "(1", "1)", "(1,)", "(,1)", "(1 2)", "(1,,2)", "(a)", "((1))", "(1) (2)", "(1);", "(-)",
            "(-'x')", "(--1)", "(1 + 1)", "(select 1)", "(?)", "('x)", "(99999999999999999999)", "(,)",
            "(- - 1)", "(1, )", "(null null)", ")1(",
        ):
            self.assertRaises(TextError, literal_texts, text)

    def test_normal_texts(self):
        for text, wanted in (("SELECT  A ,(1)+2 from T;", "select a, 1 + 2 from t"), ("begin -- now", "begin"),
            ("rollback to S", "rollback to s"), ("drop index t.0", "drop index t.0")):
            self.assertEqual(normal_text(text), wanted)
        for text in ("", "selec", "select 1; select 2"):
            self.assertRaises(TextError, normal_text, text)


class ConsoleTest(unittest.TestCase):
    def setUp(self):
        self.session = session_with("create table t (a int, b text, primary key (a))",
            "insert into t values (1, 'x'), (2, null)")
        self.console = Console(self.session)

    def check(self, *cases):
        for line, *lines in cases:
            self.assertEqual(self.console.enter(line), lines, line)

    def test_statements(self):
        self.assertEqual(self.console.session, self.session)
        self.check(
            ("select * from t;", "a  b", "-  -", "1  x", "2", "(2 rows)"),
            ("insert into t values (3, 'long one')", "insert 1"),
            ("select b from t where a = 3", "b", "--------", "long one", "(1 row)"),
            ("select a as x from t where a > 5", "x", "-", "(0 rows)"), ("update t set b = 'y'", "update 3"),
            ("delete from t where a = 3", "delete 1"), ("begin", "begin"), ("savepoint s", "savepoint"),
            ("rollback to s", "rollback to"), ("release s", "release"), ("commit", "commit"),
            ("create view v as select a from t", "create view"), ("drop view v", "drop view"), ("analyze t", "analyze"),
            ("explain select a from t where a = 1", "sort by 1", "  project 1", "    range t by primary key = 1"),
            ("select 1 = 1", "error: kind"),
        )

    def test_faults(self):
        before = held(self.session.engine)
        wide = " + ".join(["1"] * 90)
        many = ", ".join([f"({wide})"] * 40)
        self.check(
            ("", "error: text"), ("selec", "error: text"), ("-- nothing", "error: text"),
            ("select z from t", "error: name"), ("select a + 'x' from t", "error: kind"),
            ("insert into t values (1, 'x')", "error: constraint"),
            ("commit", "error: state"), (f"select 1 where 1 in ({many})", "error: plan"),
            ("select 1; select 2", "error: text"), ("?", "error: text"), ("select ? from t", "error: text"),
        )
        other = beside(self.session)
        self.check(("begin", "begin"), ("delete from t", "delete 2"))
        other.run("update t set b = b")
        self.check(("commit", "error: conflict"), ("rollback", "error: state"))
        self.assertEqual([row for name, row in held(self.session.engine)[1]], [row for name, row in before[1]])
        self.session.engine.pager.disk.arm(0)
        self.check(("delete from t", "error: server"))

    def test_prepared_statements(self):
        self.check(
            ("prepare p as select b from t where a = ?", "prepared p 1"), ("execute p (1)", "b", "-", "x", "(1 row)"),
            ("EXECUTE P(2)", "b", "-", "", "(1 row)"), ("execute p (null)", "b", "-", "(0 rows)"),
            ("prepare q as insert into t values (?, ?);", "prepared q 2"), ("execute q (-3, 'it''s ?')", "insert 1"),
            ("execute q (4, null)", "insert 1"), ("execute q (4, 'x')", "error: constraint"),
            ("execute q ('x', 4)", "error: kind"), ("select b from t where a < 0", "b", "------", "it's ?", "(1 row)"),
            ("prepare none as select 1 as n", "prepared none 0"), ("execute none", "n", "-", "1", "(1 row)"),
            ("execute none ", "n", "-", "1", "(1 row)"), ("prepare c as begin", "prepared c 0"), ("execute c", "begin"),
            ("rollback", "rollback"),
            ("Prepare m As select - ? + ? * 2 as n -- ? '\n where '?' = ?", "prepared m 3"),
            ("execute m (-5, 2, '?')", "n", "-", "9", "(1 row)"),
            ("prepare i as select a from t where a in (?, ?) or b like ?", "prepared i 3"),
            ("execute i (1, 4, 'q*')", "a", "-", "1", "4", "(2 rows)"),
            ("prepare o as select a from t where a in (?)", "prepared o 1"),
            ("execute o (2)", "a", "-", "2", "(1 row)"),
        )

    def test_texts_with_line_ends(self):
        self.check(("prepare q as insert into t values (?, ?)", "prepared q 2"), ("execute q (5, 'a\nb')", "insert 1"),
            ("select b, a from t where a = 5", "b    a", "---  -", "a\nb  5", "(1 row)"))

    def test_a_statement_prepared_again(self):
        self.check(
            ("prepare p as select ? as a", "prepared p 1"), ("prepare p as select 2 as b", "prepared p 0"),
            ("execute p", "b", "-", "2", "(1 row)"), ("execute p (1)", "error: text"),
            ("prepare p as selec", "error: text"), ("execute p", "b", "-", "2", "(1 row)"),
            ("prepare P as select 3 as b", "prepared p 0"), ("execute p", "b", "-", "3", "(1 row)"),
        )

    def test_most_values(self):
        marks = ", ".join("?" * 20)
        values = ", ".join(str(number) for number in range(20))
        self.check((f"prepare p as select 1 as n where 19 in ({marks})", "prepared p 20"),
            (f"execute p ({values})", "n", "-", "1", "(1 row)"), (f"execute p ({values}, 20)", "error: text"),
                   (f"prepare q as select 1 as n where 19 in ({marks}, ?)", "error: text"),
                   ("execute q", "error: name"))

    def test_wrong_lines(self):
        self.check(
            ("prepare p as select a from t where a = ? and b = ?", "prepared p 2"), ("execute p", "error: text"),
            ("execute p (1)", "error: text"), ("execute p (1, 'x', 2)", "error: text"),
            ("execute p (1, x)", "error: text"),
            ("execute p (1, 'x'", "error: text"), ("execute p ()", "error: text"), ("execute q (1)", "error: name"),
            ("execute q ((( '", "error: name"), ("execute q", "error: name"), ("execute q ?", "error: name"),
            ("execute", "error: text"), ("execute (1)", "error: text"), ("execute 5", "error: text"),
            ("execute select", "error: text"), ("prepare", "error: text"), ("prepare p", "error: text"),
            ("prepare p as", "error: text"), ("prepare as select 1", "error: text"),
            ("prepare p select 1", "error: text"), ("prepare p from select 1", "error: text"), ("prepare 5 as select 1", "error: text"),
            ("prepare p as select ? from", "error: text"),
            ("prepare p as select 1 limit ?", "error: text"), ("prepare p as prepare q as select 1", "error: text"),
            ("prepare p as select 1; select 2", "error: text"), ("prepare p as ?", "error: text"),
            ("execute p (1, 'x')", "a", "-", "1", "(1 row)"),
        )

    def test_names_are_looked_at_when_executed(self):
        self.check(("prepare p as select z from nobody", "prepared p 0"), ("execute p", "error: name"),
            ("prepare p as select a from u", "prepared p 0"), ("create table u (a int)", "create table"),
                   ("execute p", "a", "-", "(0 rows)"))

    def test_each_console_has_its_own(self):
        self.check(("prepare p as select 1", "prepared p 0"))
        self.assertEqual(Console(self.session).enter("execute p"), ["error: name"])


if __name__ == "__main__":
    unittest.main()
