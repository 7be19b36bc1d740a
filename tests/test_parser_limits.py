"""Point 4: at most 60 are open at once, and tuples are nested at most 100 deep."""

import unittest

from tablestack.errors import TextError
from tablestack.parser import parse, parse_expression, parse_script


def nested(opening, inner, closing, many):
    return opening * many + inner + closing * many


class OpenTest(unittest.TestCase):
    """Each form is a text that opens one more each time, and how many are open within it besides."""

    def check(self, read, build, beside):
        build_last = 60 - beside
        read(build(build_last))
        for many in (build_last + 1, build_last + 2, build_last + 40):
            with self.assertRaises(TextError, msg=build(many)):
                read(build(many))

    def test_brackets(self):
        self.check(parse_expression, lambda many: nested("(", "a", ")", many), 1)
        self.check(parse_expression, lambda many: nested("(", "null", ")", many) + " is null", 1)

    def test_nots_and_minuses(self):
        self.check(parse_expression, lambda many: nested("not ", "a", "", many), 1)
        self.check(parse_expression, lambda many: nested("- ", "a", "", many), 1)

    def test_a_minus_of_a_number_is_not_open(self):
        self.check(parse_expression, lambda many: nested("- ", "-5", "", many), 1)
        self.check(parse_expression, lambda many: nested("(", "-5", ")", many), 1)

    def test_nots_minuses_and_brackets_together(self):
        self.check(parse_expression, lambda many: nested("not ", nested("(", nested("- ", "a", "", 20), ")", 20), "",
                many), 41)

    def test_members_arguments_and_arms(self):
        self.check(parse_expression, lambda many: nested("count(", "a", ")", many), 1)
        self.check(parse_expression, lambda many: "a in (" + nested("(", "a", ")", many) + ")", 2)
        self.check(parse_expression, lambda many: "a in (b, " + nested("(", "a", ")", many) + ")", 2)
        self.check(parse_expression, lambda many: "case when " + nested("(", "a", ")", many) + " then b else c end", 2)
        self.check(parse_expression, lambda many: "case when a then " + nested("(", "b", ")", many) + " else c end", 2)
        self.check(parse_expression, lambda many: "case when a then b else " + nested("(", "c", ")", many) + " end", 2)

    def test_operands_are_not_open(self):
        for form in ("a + {}", "a = {}", "a or b and {}", "a between {} and c", "a between b and {}", "a like {}"):
            self.check(parse_expression, lambda many, form=form: form.format(nested("(", "a", ")", many)), 1)

    def test_what_was_closed_is_not_open(self):
        parse_expression(" + ".join(["(a)"] * 90))
        parse_expression("a in (" + ", ".join(["(a)"] * 500) + ")")
        parse_expression(" and ".join(["not a"] * 90))
        parse_expression("a in (" + ", ".join(["-a", "not b", "(select 1)"] * 100) + ")")

    def test_queries(self):
        self.check(parse_expression, lambda many: "(select " + nested("(", "a", ")", many) + ")", 3)
        self.check(parse_expression, lambda many: "exists (select " + nested("(", "a", ")", many) + ")", 3)
        self.check(parse_expression, lambda many: "a in (select " + nested("(", "a", ")", many) + ")", 3)

    def test_brackets_around_selects(self):
        self.check(parse, lambda many: nested("(", "select a", ")", many), 2)
        self.check(parse, lambda many: "select a union " + nested("(", "select a union select b", ")", many), 2)
        parse("select a union " + " union ".join(["(select b)"] * 90))

    def test_brackets_around_joins_are_not_open(self):
        plain = parse("select a from t, u")
        for many in (1, 58, 59, 60, 61, 62, 500, 6000):
            self.assertEqual(parse("select a from " + nested("(", "t, u", ")", many)), plain)
            self.assertEqual(parse("select a from " + nested("(", "t join u on b = c", ")", many)),
                parse("select a from t join u on b = c"))
        self.check(parse, lambda many: "select a from " + nested("(", "t join u on " + nested("(", "b", ")", many), ")",
                70), 2)
        self.check(parse, lambda many: "select a from " + nested("(",
                "t, (select " + nested("(", "b", ")", many) + ") as s", ")", 70), 3)
        parse("select a from " + ", ".join(["(t, u)"] * 90))

    def test_clauses_of_a_query(self):
        for form in ("select {}", "select a, {} as b", "select a from t where {}", "select a from t join u on {}",
                     "select a from t group by a, {}", "select a from t having {}", "select a order by {}",
                     "select a order by a, {} desc", "explain select {}", "create view v as select {}",
                     "insert into t select {}", "select 1 union select {}"):
            self.check(parse, lambda many, form=form: form.format(nested("(", "a", ")", many)), 2)
        self.check(parse, lambda many: "select a from (select " + nested("(", "a", ")", many) + ") as t", 3)

    def test_clauses_of_statements(self):
        for form in ("insert into t values ({})", "insert into t values (1, {})", "update t set a = {}",
                     "update t set a = 1, b = {}", "update t set a = 1 where {}", "delete from t where {}",
                     "create table t (a int, check ({}))"):
            self.check(parse, lambda many, form=form: form.format(nested("(", "a", ")", many)), 1)
            self.check(parse_script, lambda many, form=form: "begin;" + form.format(nested("not ", "a", "", many)), 1)


class NestedTest(unittest.TestCase):
    def check(self, read, build, last):
        read(build(last))
        for many in (last + 1, last + 2, last + 3000):
            with self.assertRaises(TextError):
                read(build(many))

    def test_operators(self):
        for sign in (" + ", " || ", " * ", " mod ", " or ", " and "):
            self.check(parse_expression, lambda many, sign=sign: sign.join(["a"] * many), 100)
        self.check(parse_expression, lambda many: "a = " + " - ".join(["b"] * many), 99)
        self.check(parse_expression, lambda many: "a in (1, " + " - ".join(["b"] * many) + ")", 98)

    def test_statements(self):
        self.check(parse, lambda many: "select " + " + ".join(["a"] * many), 96)
        self.check(parse, lambda many: "select 1 where " + " + ".join(["a"] * many), 98)
        self.check(parse, lambda many: " union ".join(["select a"] * many), 96)
        self.check(parse, lambda many: "delete from t where " + " + ".join(["a"] * many), 99)
        self.check(parse, lambda many: "update t set a = " + " + ".join(["a"] * many), 97)
        self.check(parse_script, lambda many: "begin; delete from t where " + " + ".join(["a"] * many), 99)
        self.check(parse, lambda many: "select a from " + ", ".join([f"t as t{at}" for at in range(many)]), 98)

    def test_joins_on_a_second_side(self):
        self.check(parse, lambda many: "select a from " + nested("t, (", "u, v", ")", many), 96)
        self.check(parse, lambda many: "select a from " + "t join (" * many + "u join v on b = c" + ") on d" * many, 95)
        self.check(parse, lambda many: "select a from " + "t left join (" * many + "u, v" + ") on d" * many, 96)

    def test_length_alone_is_not_deep(self):
        parse("select " + ", ".join(["a"] * 3000))
        parse("insert into t values " + ", ".join(["(1, 2)"] * 3000))
        parse_script("begin; commit;" * 1000)


class ManyBracketsTest(unittest.TestCase):
    """Texts with very many brackets end in a TextError or an answer."""

    def test_texts_that_are_none(self):
        for many in (3, 61, 1000, 6000):
            for form in (
                "select a from {0}t, u", "select a from t, u{1}", "select a from {0}t{1}", "select a from {0}t as s{1}",
                "select a from {0}{1}",
                "select a from {0}", "select a from {0}t, u{1})", "select a from ({0}t, u{1}", "select a from {0}t,{1}",
                "select a from {0}select b{1}",
                "select a from {0}t join u{1}", "select a from {0}t, u{1} as s",
                "select a from t join {0}u on b = c{1}", "insert into t {0}",
                "select a from {0}t left u{1}", "explain {0}", "select a where {0}", "select a in {0}", "{0}",
                "create table t {0}",
            ):
                text = form.format("(" * many, ")" * many)
                with self.assertRaises(TextError, msg=text[:80]):
                    parse(text)

    def test_texts_that_are_too_deep_or_too_open(self):
        for many in (98, 1000, 20000):
            for form in ("select a from {0}t, u{1}", "{0}select a{1}", "select a where {0}b{1}",
                "insert into t {0}select a{1}", "select a from {0}select b{1} as s"):
                text = form.format("(" * many, ")" * many)
                if "t, u" in form:
                    parse(text)
                else:
                    self.assertRaises(TextError, parse, text)
            for text in ("select a from " + "t, (" * many + "u" + ")" * many,
                "select a from " + "(" * many + "t, u" + "), v" * many,
                         "select a from " + "t join (" * many + "u, v" + ") on b" * many):
                self.assertRaises(TextError, parse, text)


if __name__ == "__main__":
    unittest.main()
