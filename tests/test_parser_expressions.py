"""Points 4 and 5: the grammar and the trees of expressions."""

import unittest

from tablestack.errors import TextError
from tablestack.parser import parse_expression

HIGHEST = 9223372036854775807
A, B, C, D = [("col", None, name) for name in "abcd"]
ONE, TWO, THREE = [("int", number) for number in (1, 2, 3)]


def query(item):
    return ("query", ("select", False, ((item, None),), None, None, (), None), (), None, 0)


class ExpressionTest(unittest.TestCase):
    def check(self, cases):
        for text, tree in cases:
            self.assertEqual(parse_expression(text), tree, text)

    def refuse(self, texts):
        for text in texts:
            with self.assertRaises(TextError, msg=text):
                parse_expression(text)


class OperandTest(ExpressionTest):
    def test_literals(self):
        self.check((("null", ("null",)), ("0", ("int", 0)), ("17", ("int", 17)), ("''", ("text", "")),
                    ("'it''s'", ("text", "it's")), (str(HIGHEST), ("int", HIGHEST)), (f"-{HIGHEST}", ("int", -HIGHEST))))
        self.refuse(("", "9223372036854775808", "-9223372036854775808", "1.5", "true?", "''''a"))

    def test_columns(self):
        self.check((("a", A), ("T.A", ("col", "t", "a")), ("t . a", ("col", "t", "a")), ("_x1", ("col", None, "_x1"))))
        self.refuse(("t.", ".a", "a.b.c", "t.1", "t.*", "*", "select", "t.select", "a b"))

    def test_minus(self):
        self.check((("-5", ("int", -5)), ("- 5", ("int", -5)), ("-a", ("neg", A)), ("- -5", ("neg", ("int", -5))),
                    ("-(5)", ("neg", ("int", 5))), ("- -a", ("neg", ("neg", A))), ("-(-5)", ("neg", ("int", -5))),
                    ("- - -5", ("neg", ("neg", ("int", -5)))), ("-(a + b)", ("neg", ("op", "+", A, B))),
                    ("-null", ("neg", ("null",))), ("-0", ("int", 0)), ("(-a)", ("neg", A))))
        self.refuse(("-", "--5", "a -", "- not a", "-(a", "+a", "+ 5"))

    def test_calls(self):
        self.check((("count(*)", ("agg", "count", None, False)), ("COUNT ( * )", ("agg", "count", None, False)),
                    ("count(a)", ("agg", "count", A, False)), ("sum(a + 1)", ("agg", "sum", ("op", "+", A, ONE), False)),
                    ("min(distinct a)", ("agg", "min", A, True)), ("max(a)", ("agg", "max", A, False)),
                    ("count(distinct a or b)", ("agg", "count", ("or", A, B), True)),
                    ("sum(max(a))", ("agg", "sum", ("agg", "max", A, False), False)),
                    ("sum((select 1))", ("agg", "sum", ("scalar", query(ONE)), False))))
        self.refuse(("count()", "count(*", "count *)", "sum(*)", "min(*)", "max(*)", "count(distinct *)", "count(distinct)",
                     "sum()", "sum(a, b)", "sum(a", "sum a)", "sum(all a)", "avg(a)", "a(b)", "sum(distinct distinct a)",
                     "count(* + 1)", "sum(select 1)", "count((a)", "t.count(*)"))

    def test_case(self):
        self.check((("case when a then b else c end", ("case", ((A, B),), C)),
                    ("case when a = 1 then 1 when b then 2 else 3 end",
                     ("case", ((("cmp", "=", A, ONE), ONE), (B, TWO)), THREE)),
                    ("case when case when a then b else c end then 1 else case when a then 2 else 3 end end",
                     ("case", ((("case", ((A, B),), C), ONE),), ("case", ((A, TWO),), THREE))),
                    ("-case when a then 1 else 2 end * 3",
                     ("op", "*", ("neg", ("case", ((A, ONE),), TWO)), THREE))))
        self.refuse(("case end", "case else a end", "case when a then b else c", "case when a else b end", "case a end",
                     "case when then b else c end", "case when a then else c end", "case when a then b else end",
                     "case when a b else c end", "when a then b else c end", "case when a then b then c else d end",
                     "case a then b else c end", "case when a then b else c else d end", "case when a when b else c end",
                     "case else c when a then b end", "case when a, b then c else d end"))

    def test_brackets(self):
        self.check((("(a)", A), ("((a))", A), ("(1)", ONE), ("(((null)))", ("null",)), ("(a or b) and c", ("and", ("or", A, B), C))))
        self.refuse(("()", "(", ")", "(a", "a)", "((a)", "((a", "(((a", "(a))", "(a, b)", "(a b)", ")a(", "(a)(b)"))


class OperatorTest(ExpressionTest):
    def test_arithmetic(self):
        self.check((("a + b", ("op", "+", A, B)), ("a - b", ("op", "-", A, B)), ("a || b", ("op", "||", A, B)),
                    ("a * b", ("op", "*", A, B)), ("a / b", ("op", "/", A, B)), ("a mod b", ("op", "mod", A, B)),
                    ("a -5", ("op", "-", A, ("int", 5))), ("a - -5", ("op", "-", A, ("int", -5))),
                    ("a-b", ("op", "-", A, B)), ("a - - b", ("op", "-", A, ("neg", B)))))
        self.refuse(("a +", "+ a", "* a", "a * * b", "a + + b", "a mod", "a || || b", "a | b", "a b", "a a + b", "a / / b"))

    def test_they_associate_to_the_left(self):
        for one in ("+", "-", "||"):
            for other in ("+", "-", "||"):
                self.check(((f"a {one} b {other} c", ("op", other, ("op", one, A, B), C)),
                            (f"a {one} (b {other} c)", ("op", one, A, ("op", other, B, C)))))
        for one in ("*", "/", "mod"):
            for other in ("*", "/", "mod"):
                self.check(((f"a {one} b {other} c", ("op", other, ("op", one, A, B), C)),))
        self.check((("a or b or c", ("or", ("or", A, B), C)), ("a and b and c", ("and", ("and", A, B), C)),
                    ("a or (b or c)", ("or", A, ("or", B, C)))))

    def test_levels(self):
        for sign in ("+", "-", "||"):
            for tight in ("*", "/", "mod"):
                self.check(((f"a {sign} b {tight} c", ("op", sign, A, ("op", tight, B, C))),
                            (f"a {tight} b {sign} c", ("op", sign, ("op", tight, A, B), C)),
                            (f"(a {sign} b) {tight} c", ("op", tight, ("op", sign, A, B), C))))
        self.check((("-a * b", ("op", "*", ("neg", A), B)), ("-a + b", ("op", "+", ("neg", A), B)),
                    ("a * -b", ("op", "*", A, ("neg", B))), ("-5 * b", ("op", "*", ("int", -5), B)),
                    ("a + b = c * d", ("cmp", "=", ("op", "+", A, B), ("op", "*", C, D))),
                    ("not a = b", ("not", ("cmp", "=", A, B))), ("(not a) = b", ("cmp", "=", ("not", A), B)),
                    ("not a and b", ("and", ("not", A), B)), ("not (a and b)", ("not", ("and", A, B))),
                    ("a and not b or c", ("or", ("and", A, ("not", B)), C)), ("not not a", ("not", ("not", A))),
                    ("a or b and c", ("or", A, ("and", B, C))), ("a and b or c", ("or", ("and", A, B), C)),
                    ("a or not b and c", ("or", A, ("and", ("not", B), C)))))
        self.refuse(("a = not b", "a + not b", "not", "a not", "not or a", "a and", "or a", "a and or b", "a or or b",
                     "a and and b", "a not b", "not a not"))

    def test_comparisons(self):
        for sign in ("=", "<>", "<", "<=", ">", ">="):
            self.check(((f"a {sign} b", ("cmp", sign, A, B)), (f"a{sign}b", ("cmp", sign, A, B))))
        self.check((("a is null", ("isnull", A, False)), ("a is not null", ("isnull", A, True)),
                    ("a + 1 is null", ("isnull", ("op", "+", A, ONE), False)),
                    ("not a is null", ("not", ("isnull", A, False)))))
        self.refuse(("a =", "= a", "a = = b", "a == b", "a = b = c", "a < b < c", "a = b is null", "a is null is null",
                     "a is", "a is not", "a is 1", "is null", "a not null", "a is null + 1", "a not = b", "a is not not null",
                     "a > < b", "a != b", "a = b in (c)", "a is null = b"))

    def test_between(self):
        self.check((("a between b and c", ("between", A, B, C, False)), ("a not between b and c", ("between", A, B, C, True)),
                    ("a between b and c and d", ("and", ("between", A, B, C, False), D)),
                    ("a between b + 1 and c * 2", ("between", A, ("op", "+", B, ONE), ("op", "*", C, TWO), False)),
                    ("a between (b and c) and d", ("between", A, ("and", B, C), D, False))))
        self.refuse(("a between b", "a between b or c", "a between b, c", "between b and c", "a between and c", "a between b and",
                     "a between b and c between c and d", "a between b = 1 and c", "a not not between b and c",
                     "a between not b and c", "a between b c"))

    def test_in(self):
        self.check((("a in (1)", ("in", A, (ONE,), False)), ("a not in (1, b, 3)", ("in", A, (ONE, B, THREE), True)),
                    ("a in (b or c, not d)", ("in", A, (("or", B, C), ("not", D)), False)),
                    ("a in (select 1)", ("inquery", A, query(ONE), False)),
                    ("a not in (select b)", ("inquery", A, query(B), True)),
                    ("a in ((select 1))", ("in", A, (("scalar", query(ONE)),), False)),
                    ("a in ((select 1), 2)", ("in", A, (("scalar", query(ONE)), TWO), False)),
                    ("a + b in (c)", ("in", ("op", "+", A, B), (C,), False)),
                    ("a in ((1))", ("in", A, (ONE,), False))))
        self.refuse(("a in ()", "a in 1", "a in b", "a in (1", "a in 1)", "a in (1,)", "a in (,1)", "a in (1 2)", "a in (1,, 2)",
                     "in (1)", "a in (1) in (2)", "a not not in (1)", "a in select 1", "a in (select 1, (2)", "a not (1)",
                     "a in (select 1 select 2)", "a in not (1)"))

    def test_like(self):
        self.check((("a like 'x*'", ("like", A, ("text", "x*"), False)), ("a not like b || c", ("like", A, ("op", "||", B, C), True)),
                    ("not a like b", ("not", ("like", A, B, False)))))
        self.refuse(("a like", "like b", "a like b like c", "a not not like b", "a like not b", "a is like b"))

    def test_queries(self):
        self.check((("(select 1)", ("scalar", query(ONE))), ("((select 1))", ("scalar", query(ONE))),
                    ("exists (select a)", ("exists", query(A))), ("not exists (select a)", ("not", ("exists", query(A)))),
                    ("(select 1) + (select 2)", ("op", "+", ("scalar", query(ONE)), ("scalar", query(TWO)))),
                    ("((select 1) + 2)", ("op", "+", ("scalar", query(ONE)), TWO)),
                    ("(select 1 order by a limit 2 offset 3)",
                     ("scalar", (*query(ONE)[:2], ((A, False),), 2, 3)))))
        union = ("query", ("union", False, query(ONE)[1], query(TWO)[1]), (), None, 0)
        self.check((("(select 1 union select 2)", ("scalar", union)), ("((select 1) union (select 2))", ("scalar", union)),
                    ("((select 1) union select 2)", ("scalar", union)), ("exists ((select 1) union select 2)", ("exists", union)),
                    ("a in ((select 1) union select 2)", ("inquery", A, union, False)),
                    ("(((select 1) union select 2))", ("scalar", union)),
                    ("((select 1) limit 5)", ("scalar", (*query(ONE)[:3], 5, 0)))))
        self.refuse(("select 1", "exists select 1", "exists (1)", "exists (a)", "exists", "exists ()", "(select)", "(select 1",
                     "select 1)", "exists (select 1", "((select 1", "((select 1)", "a in ((select 1", "(select 1) (select 2)", "((select 1) select 2)", "exists exists (select 1)"))

    def test_capitals_and_gaps(self):
        self.check((("NOT A IN(1)AND B IS NOT NULL", ("and", ("not", ("in", A, (ONE,), False)), ("isnull", B, True))),
                    ("a -- x\n+ -- y\n b", ("op", "+", A, B)), ("\n ( a)\n", A), ("a*b", ("op", "*", A, B))))

    def test_nothing_follows(self):
        self.refuse(("a;", "a, b", "a as b", "a desc", "1 1", "a 'b'", "'a' 'b'", "null null"))


if __name__ == "__main__":
    unittest.main()
