"""Point 6: kinds of expressions, and what does not fit."""

import unittest

from tablestack.binder import aggregate_kind, expect, fitting
from tablestack.errors import KindFault, NameFault
from tablestack.parser import parse, parse_expression
from tablestack.schema import Catalog, declared_table
from tablestack.scope import Scope
from tablestack.translate import bind_truth, bind_value

SCOPE = Scope((("t", "a", "int"), ("t", "b", "text"), ("t", "n", "null"), ("u", "a", "int"), ("u", "c", "text")))
F = [("field", 0, place) for place in range(5)]
INTS = ("5", "t.a", "t.a + 1", "-t.a", "null + null", "-null", "(select x from w)", "case when 1 = 1 then 2 else null end")
TEXTS = ("'x'", "b", "c || b", "null || null", "(select y from w)", "case when null then null else 'x' end")
NULLS = ("null", "n", "(select null)", "case when null then null else n end")
TRUTHS = ("t.a = 1", "b is null", "not b = c", "t.a in (1)", "b in (select y from w)", "t.a between 1 and 2", "b like c",
          "exists (select x, y from w)", "1 = 1 and 2 = 2", "1 = 1 or null", "not null")


def catalog():
    found = Catalog()
    found.add_table(declared_table(parse("create table w (x int, y text)"))[0])
    return found


def value(text):
    return bind_value(catalog(), SCOPE, parse_expression(text))


def truth(text):
    return bind_truth(catalog(), SCOPE, parse_expression(text))


class KindTest(unittest.TestCase):
    def test_fitting(self):
        for kinds, kind in (((), "null"), (("null",), "null"), (("int",), "int"), (("null", "text", "null"), "text"),
                            (("int", "int", "null"), "int"), (["null", "null"], "null")):
            self.assertEqual(fitting(kinds), kind)
        for kinds in (("int", "text"), ("text", "null", "int"), ("int", "int", "text")):
            with self.assertRaises(KindFault):
                fitting(kinds)

    def test_expect(self):
        for kind, wanted in (("int", "int"), ("text", "text"), ("null", "int"), ("null", "text")):
            self.assertIsNone(expect(kind, wanted))
        for kind, wanted in (("int", "text"), ("text", "int")):
            with self.assertRaises(KindFault):
                expect(kind, wanted)

    def test_aggregate_kind(self):
        for name, kind, found in (("count", "int", "int"), ("count", "text", "int"), ("count", "null", "int"), ("sum", "int", "int"),
                                  ("sum", "null", "int"), ("min", "text", "text"), ("max", "int", "int"), ("min", "int", "int"),
                                  ("max", "text", "text"), ("max", "null", "null")):
            self.assertEqual(aggregate_kind(name, kind), found)
        with self.assertRaises(KindFault):
            aggregate_kind("sum", "text")
        for name in ("avg", "", "length"):
            with self.assertRaises(NameFault):
                aggregate_kind(name, "int")


class BoundTest(unittest.TestCase):
    def test_columns(self):
        self.assertEqual(value("t.a"), (F[0], "int"))
        self.assertEqual(value("u.a"), (F[3], "int"))
        self.assertEqual(value("B"), (F[1], "text"))
        self.assertEqual(value("n"), (F[2], "null"))
        for text in ("a", "x", "t.c", "u.b", "w.a", "x.a", "t.a + d", "case when a = 1 then 2 else 3 end"):
            with self.assertRaises(NameFault, msg=text):
                value(text)

    def test_values(self):
        self.assertEqual(value("5"), (("int", 5), "int"))
        self.assertEqual(value("'x'"), (("text", "x"), "text"))
        self.assertEqual(value("null"), (("null",), "null"))
        self.assertEqual(value("-t.a * 2"), (("op", "*", ("neg", F[0]), ("int", 2)), "int"))
        self.assertEqual(value("b || 'x'"), (("op", "||", F[1], ("text", "x")), "text"))
        self.assertEqual(value("case when t.a < 1 then b when null then 'x' else n end"), (
            ("case", ((("cmp", "<", F[0], ("int", 1)), F[1]), (("null",), ("text", "x"))), F[2]), "text"))

    def test_truths(self):
        self.assertEqual(truth("t.a = u.a and not b like c or n is not null"), (
            "or", ("and", ("cmp", "=", F[0], F[3]), ("not", ("like", F[1], F[4], False))), ("isnull", F[2], True)))
        self.assertEqual(truth("t.a not between 1 and n"), ("between", F[0], ("int", 1), F[2], True))
        self.assertEqual(truth("b not in (c, 'x', null)"), ("in", F[1], (F[4], ("text", "x"), ("null",)), True))
        self.assertEqual(truth("null"), ("null",))

    def test_queries(self):
        bound, kind = value("(select x from w where y = b)")
        self.assertEqual((bound[0], kind), ("scalar", "int"))
        bound = truth("u.a not in (select x from w)")
        self.assertEqual((bound[0], bound[1], bound[3]), ("inquery", F[3], True))
        self.assertEqual(truth("exists (select 1)")[0], "exists")

    def test_kinds(self):
        for kind, texts in (("int", INTS), ("text", TEXTS), ("null", NULLS)):
            for text in texts:
                self.assertEqual(value(text)[1], kind, text)


class FitTest(unittest.TestCase):
    def refuse(self, call, texts):
        for text in texts:
            with self.assertRaises(KindFault, msg=text):
                call(text)

    def test_conditions_and_values(self):
        for text in INTS + TEXTS:
            self.refuse(truth, (text, f"not ({text})", f"{text} and 1 = 1", f"1 = 1 or {text}"))
            self.refuse(value, (f"case when {text} then 1 else 2 end",))
        for text in TRUTHS:
            truth(text)
            self.refuse(value, (text, f"({text}) + 1", f"-({text})", f"case when null then {text} else null end",
                                f"case when null then null else {text} end"))
            self.refuse(truth, (f"({text}) = null", f"({text}) is null", f"({text}) in (null)", f"null in ({text})",
                                f"null between ({text}) and null", f"({text}) like null", f"({text}) = ({text})",
                                f"null between null and ({text})", f"({text}) between null and null",
                                f"({text}) in (select null)"))

    def test_integers_and_texts(self):
        for one in INTS:
            self.refuse(value, (f"{one} || 'x'", f"'x' || ({one})", f"{one} || null"))
            self.refuse(truth, (f"{one} like 'x'", f"'x' like {one}", f"null like {one}"))
            for other in TEXTS:
                for sign in ("=", "<>", "<", "<=", ">", ">="):
                    self.refuse(truth, (f"({one}) {sign} ({other})", f"({other}) {sign} ({one})"))
                self.refuse(truth, (f"({one}) in (1, {other})", f"({other}) in ({one})", f"null in ({one}, {other})",
                                    f"({one}) between ({other}) and null", f"null between ({one}) and ({other})",
                                    f"({one}) between null and ({other})", f"({one}) in (select {other})"))
                self.refuse(value, (f"case when null then {one} else {other} end", f"({one}) + ({other})"))
        for text in TEXTS:
            self.refuse(value, tuple(f"({text}) {sign} 1" for sign in ("+", "-", "*", "/", "mod")))
            self.refuse(value, tuple(f"null {sign} ({text})" for sign in ("+", "-", "*", "/", "mod")))
            self.refuse(value, (f"-({text})",))

    def test_null_fits_all(self):
        for other in INTS + TEXTS + NULLS:
            for null in NULLS:
                for form in ("{} = {}", "{} <> {}", "({}) in ({})", "({}) in (select {})", "{} between {} and null"):
                    truth(form.format(f"({null})", f"({other})"))
                    truth(form.format(f"({other})", f"({null})"))
        for null in NULLS:
            truth(null)
            truth(f"not ({null}) and ({null}) or ({null})")
            self.assertEqual(value(f"({null}) + ({null})")[1], "int")
            self.assertEqual(value(f"-({null})")[1], "int")
            self.assertEqual(value(f"({null}) || ({null})")[1], "text")
            truth(f"({null}) like ({null})")

    def test_several_columns(self):
        self.refuse(value, ("(select x, y from w)", "(select * from w)"))
        self.refuse(truth, ("t.a in (select x, x from w)", "null in (select * from w)"))

    def test_aggregates(self):
        for text in ("count(*)", "sum(t.a)", "1 + max(t.a)", "case when count(*) = 1 then 1 else 2 end"):
            with self.assertRaises(NameFault, msg=text):
                value(text)
        for text in ("count(*) = 1", "b in (min(b))", "t.a between 1 and count(b)"):
            with self.assertRaises(NameFault, msg=text):
                truth(text)
        self.assertEqual(value("(select count(*) from w)")[1], "int")


if __name__ == "__main__":
    unittest.main()
