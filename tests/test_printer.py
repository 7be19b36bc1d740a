"""Points 4 and 5: printed text parses to the same tree, and has brackets only where they are needed."""

import random
import re
import unittest

from tablestack.errors import TextError
from tablestack.lexer import tokenize
from tablestack.parser import parse, parse_expression
from tablestack.printer import expression_text, level_of, query_text, statement_text
from tests.drawn import Drawer

# Each of these texts is as the printer tells it.
EXPRESSIONS = (
    "null", "5", "-5", "''", "'it''s'", "a", "t.a", "a + b", "a - b - c", "a - (b - c)", "a || b + c", "a || (b + c)",
    "a + b || c", "a + (b || c)", "a * b / c mod d", "a * (b / c)", "(a + b) * c", "a + b * c", "-a", "-(a + b)", "-(a * b)",
    "-a * b", "a * -b", "-(5)", "-(-5)", "a - (-5)", "a + -5", "a * -5", "-5 - a", "a - 5", "-5 * a", "a = -5", "a - (-5) * b",
    "a - (b - (-5))", "a - (-5 - b)", "a = b", "a <> b", "a < b", "a <= b", "a > b", "a >= b", "(a = b) = c", "a = (b = c)",
    "a + b = c || d", "a is null", "a is not null", "(a = b) is null", "a in (1)", "a not in (1, b)", "a in (b = c, not d)",
    "(a in (1)) in (2)", "a in (select b)", "a not in (select b)", "a in ((select b))", "a between b and c",
    "a not between b + 1 and -c", "a between (b = c) and d", "a like b", "a not like b || c", "not a", "not a = b", "(not a) = b",
    "not (a and b)", "not a and b", "not not a", "a and b and c", "a and (b and c)", "a or b and c", "(a or b) and c",
    "a or (b or c)", "a and not b", "not a is null", "not a in (1)", "not a not in (1)", "not a like b", "not exists (select a)",
    "case when a then b else c end", "case when a = b then c when not d then 1 else -5 end", "case when a then b else c end + 1",
    "-case when a then b else c end", "exists (select a)", "(select a)", "(select a) + 1", "-(select a)", "count(*)", "count(a)",
    "sum(distinct a + b)", "min(a = b)", "max((select a))", "count(distinct (select a))", "-count(*)",
    "exists (select a union select b)", "a in ((select b union select c) intersect select d)",
)
QUERIES = (
    "select a", "select distinct a, b as c, *, t.* from t", "select a from t as u", "select a from t, u, v",
    "select a from t join u on a = b left join v on c = d, w", "select a from t join (u join v on a = b) on c = d",
    "select a from t, (u, v)", "select a from (select b from t) as u", "select a from (select 1 union select 2) as t",
    "select a where b group by c, d having e", "select a order by b desc, 2, -c limit 0 offset 7", "select a offset 1",
    "select a limit 9", "select 1 union select 2", "select 1 union all select 2 except select 3",
    "select 1 union (select 2 except all select 3)", "select 1 union select 2 intersect select 3",
    "(select 1 union select 2) intersect select 3", "select 1 intersect select 2 union select 3",
    "select 1 intersect (select 2 intersect all select 3)", "select 1 intersect (select 2 union select 3)",
    "select 1 union select 2 order by 1 limit 3", "select a from ((select 1 union select 2) intersect select 3) as t",
)
STATEMENTS = (
    "explain select a", "insert into t values (1, 'x'), (null, -a)", "insert into t (a, b) values (1, 2)",
    "insert into t select a from u", "insert into t (a) select a union select b",
    "insert into t (select 1 union select 2) intersect select 3", "update t set a = b + 1, b = null where a = b",
    "update t set a = b = c", "delete from t", "delete from t where a",
    "create table t (a int, b text not null default 'x', c int default -5, primary key (a, b), unique (c), "
    "foreign key (a, c) references u (x, y), check (a > c or b is null))",
    "create index i on t (a, b)", "create unique index i on t (a)", "create view v as select a limit 1", "drop table t",
    "drop index i", "drop view v", "analyze t", "begin", "commit", "rollback", "savepoint s", "rollback to s", "release s",
)


def bracket_pairs(text):
    """Return the places of the brackets of a text that belong together, those in quotes left out."""
    found = []
    waiting = []
    for token in tokenize(text):
        if token.word == "(":
            waiting.append(token.place)
        elif token.word == ")":
            found.append((waiting.pop(), token.place))
    return found


def without_pair(text, pair):
    """Return a text with blanks in the places of a pair of brackets."""
    start, end = pair
    return f"{text[:start]} {text[start + 1:end]} {text[end + 1:]}"


def is_number_behind_minus(text, pair):
    """Return True if a pair of brackets holds a negative number behind a minus."""
    start, end = pair
    return re.fullmatch(r"-[0-9]+", text[start + 1:end]) is not None and text[:start].rstrip()[-1:] == "-"


def with_gaps(text, chance):
    """Return a text with other gaps between its tokens, and with capitals."""
    tokens = tokenize(text)
    places = [token.place for token in tokens]
    parts = [text[start:end].strip(" ") for start, end in zip(places, places[1:])]
    parts = [part if part[0] == "'" else part.upper() for part in parts]
    return chance.choice((" ", "\n", " -- x'\n")) + "".join(part + chance.choice(("  ", "\n", " --\n ")) for part in parts)


class PrinterTest(unittest.TestCase):
    def check(self, read, write, text):
        tree = read(text)
        self.assertEqual(write(tree), text)
        self.check_brackets(read, tree, text)

    def check_brackets(self, read, tree, text):
        for pair in bracket_pairs(text):
            if not is_number_behind_minus(text, pair):
                try:
                    other = read(without_pair(text, pair))
                except TextError:
                    continue
                self.assertNotEqual(other, tree, (text, pair))

    def test_expressions(self):
        for text in EXPRESSIONS:
            self.check(parse_expression, expression_text, text)

    def test_queries(self):
        for text in QUERIES:
            self.check(parse, query_text, text)
            self.check(parse, statement_text, text)

    def test_statements(self):
        for text in STATEMENTS:
            self.check(parse, statement_text, text)

    def test_other_gaps_and_capitals(self):
        chance = random.Random(1)
        for read, texts in ((parse_expression, EXPRESSIONS), (parse, QUERIES + STATEMENTS)):
            for text in texts:
                for _ in range(5):
                    self.assertEqual(read(with_gaps(text, chance)), read(text), text)

    def test_two_minuses_are_no_comment(self):
        column = ("col", None, "a")
        for tree in (("neg", ("neg", column)), ("op", "-", column, ("neg", column)), ("neg", ("neg", ("int", -5))),
                     ("neg", ("neg", ("neg", ("int", 5)))), ("op", "-", column, ("op", "*", ("neg", column), column)),
                     ("op", "-", column, ("op", "*", ("int", -5), column))):
            self.assertNotIn("--", expression_text(tree))
            self.assertEqual(parse_expression(expression_text(tree)), tree)

    def test_negative_numbers_behind_a_minus(self):
        five = ("int", -5)
        column = ("col", None, "a")
        self.assertEqual(expression_text(("neg", five)), "-(-5)")
        self.assertEqual(expression_text(("op", "-", column, five)), "a - (-5)")
        self.assertEqual(expression_text(("op", "-", five, five)), "-5 - (-5)")
        self.assertEqual(expression_text(("op", "+", column, five)), "a + -5")

    def test_right_sides_of_joins(self):
        text = "select a from t, (u join v on a) join (w, x) on b"
        self.assertEqual(query_text(parse(text)), text)


class LevelTest(unittest.TestCase):
    def test_levels(self):
        for level, texts in (
            (1, ("a or b",)), (2, ("a and b",)), (3, ("not a",)),
            (4, ("a = b", "a <> b", "a < b", "a is null", "a is not null", "a in (1)", "a not in (select b)",
                 "a between b and c", "a like b")),
            (5, ("a + b", "a - b", "a || b")), (6, ("a * b", "a / b", "a mod b")), (7, ("-a",)),
            (8, ("null", "5", "'x'", "a", "t.a", "count(*)", "sum(a)", "case when a then b else c end", "(select a)",
                 "exists (select a)")),
        ):
            for text in texts:
                self.assertEqual(level_of(parse_expression(text)), level, text)


class DrawnTest(unittest.TestCase):
    def test_drawn_expressions(self):
        for seed in range(3000):
            tree = Drawer(seed).expression(4)
            text = expression_text(tree)
            self.assertEqual(parse_expression(text), tree, text)
            if seed < 1000:
                PrinterTest.check_brackets(self, parse_expression, tree, text)

    def test_drawn_statements(self):
        for seed in range(3000):
            tree = Drawer(seed).statement(3)
            text = statement_text(tree)
            self.assertEqual(parse(text), tree, text)
            if seed < 1000:
                PrinterTest.check_brackets(self, parse, tree, text)
                self.assertEqual(parse(with_gaps(text, random.Random(seed))), tree, text)


class JoinsOnSecondSidesTest(unittest.TestCase):
    def joined(self, many, left, tree):
        """Return the query of so many joins, each of which stands on the second side of the one before."""
        source = ("table", f"t{many}", f"t{many}")
        for number in range(many - 1, -1, -1):
            source = ("join", left, ("table", f"t{number}", f"t{number}"), source, tree)
        return ("query", ("select", False, (("star", None),), source, None, (), None), (), None, 0)

    def test_printed_texts(self):
        test = ("cmp", "=", ("col", None, "a"), ("col", "t0", "b"))
        for left, tree, most in ((False, None, 97), (False, test, 96), (True, test, 96), (True, ("col", None, "a"), 97)):
            for many in (1, 2, 30, 58, 59, 60, 61, 62, 63, most - 1, most):
                query = self.joined(many, left, tree)
                text = statement_text(query)
                self.assertEqual(text.count("("), many - 1)
                self.assertEqual(parse(text), query, many)
            for many in (most + 1, most + 2, 300):
                self.assertRaises(TextError, parse, statement_text(self.joined(many, left, tree)))
        self.assertEqual(statement_text(self.joined(2, False, None)), "select * from t0, (t1, t2)")


if __name__ == "__main__":
    unittest.main()
