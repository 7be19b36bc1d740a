"""Points 1, 6, 7 and 8: queries to plans."""

import unittest

from tablestack.errors import KindFault, NameFault, PlanFault
from tablestack.parser import parse
from tablestack.plans import check_plan, tables_of, width
from tablestack.schema import Catalog, declared_table
from tablestack.translate import output_field, translate
from tests.plain import in_order, plan_rows

TABLES = {
    "t": [(1, "x", 10), (2, "y", None), (3, "x", 30), (4, None, 10), (5, "z", 20)],
    "u": [(1, 10, "x"), (3, 30, "q"), (3, 10, None), (9, None, "y")],
    "e": [],
}


def catalog():
    found = Catalog()
    for text in ("t (a int, b text, c int)", "u (a int, d int, e text)", "e (a int, f text)"):
        found.add_table(declared_table(parse(f"create table {text}"))[0])
    found.views["v"] = "select b, count(*) as n from t group by b"
    found.views["w"] = "select n as m, b, b from v where n > 1"
    return found


def translated(text):
    return translate(catalog(), parse(text))


def names(text):
    return tuple(name for name, kind in translated(text)[1])


class TranslateTest(unittest.TestCase):
    def rows(self, text):
        plan, columns = translated(text)
        self.assertEqual(check_plan(plan), plan)
        self.assertEqual(width(plan), len(columns))
        rows = plan_rows(TABLES, plan)
        self.assertTrue(all(len(row) == len(columns) for row in rows))
        return rows

    def check(self, cases):
        for text, rows in cases:
            self.assertEqual(self.rows(text), rows, text)

    def refuse(self, fault, texts):
        for text in texts:
            with self.assertRaises(fault, msg=text):
                translated(text)


class ColumnsTest(TranslateTest):
    def test_names_of_output_columns(self):
        for text, wanted in (
            ("select a, b as x, t.c from t", ("a", "x", "c")), ("select a + 1, a, -a from t", ("column1", "a", "column3")),
            ("select * from t", ("a", "b", "c")), ("select *, 1 from t, u", ("a", "b", "c", "a", "d", "e", "column7")),
            ("select u.*, 2 as y, t.* from t, u", ("a", "d", "e", "y", "a", "b", "c")), ("select count(*), 5 as z", ("column1", "z")),
            ("select a as x from t union select d as y from u", ("x",)), ("select 1 union select a from t", ("column1",)),
            ("select (select a from e) from t", ("column1",)), ("select * from v", ("b", "n")), ("select * from w", ("m", "b", "b")),
            ("select * from (select a, a, 1 from t) as s", ("a", "a", "column3")), ("select a, a from t", ("a", "a")),
        ):
            self.assertEqual(names(text), wanted, text)

    def test_kinds_of_output_columns(self):
        for text, wanted in (
            ("select a, b, null, a + null, null || null from t", ("int", "text", "null", "int", "text")),
            ("select count(b), sum(a), min(b), max(c), sum(null), min(null) from t", ("int", "int", "text", "int", "int", "null")),
            ("select null union select b from t", ("text",)), ("select a from t except select null", ("int",)),
            ("select null intersect select null", ("null",)), ("select x from (select null as x) as s", ("null",)),
            ("select m, n from w, v", ("int", "int")), ("select (select b from t), (select null)", ("text", "null")),
        ):
            self.assertEqual(tuple(kind for name, kind in translated(text)[1]), wanted, text)

    def test_stars_without_columns(self):
        self.refuse(NameFault, ("select *", "select x.* from t", "select t.* from t as x", "select 1 where exists (select *)",
                                "select 1 from t where exists (select t.* from u)", "select 1, * where 1 = 1", "select t.*"))


class SourcesTest(TranslateTest):
    def test_plain_selects(self):
        self.check((("select 1, 'x'", [(1, "x")]), ("select 1 where 1 = 2", []), ("select a from t where b = 'x'", [(1,), (3,)]),
                    ("select a from t where c > 10 and not b = 'z'", [(3,)]), ("select a from e", []),
                    ("select a from t where null", []), ("select a from t where b = null or a = 5", [(5,)])))

    def test_joins(self):
        pairs = [(1, 10), (3, 10), (3, 30)]
        self.check((("select t.a, d from t, u where t.a = u.a", pairs), ("select t.a, d from t join u on t.a = u.a", pairs),
                    ("select x.a, d from t as x join u as y on x.a = y.a", pairs),
                    ("select t.a, d from t left join u on t.a = u.a", [(1, 10), (2, None), (3, 10), (3, 30), (4, None), (5, None)]),
                    ("select t.a, d from t left join u on t.a = u.a where d is null", [(2, None), (4, None), (5, None)]),
                    ("select u.a, f from u left join e on u.a = e.a", [(1, None), (3, None), (3, None), (9, None)]),
                    ("select x.a, y.a from t as x, t as y where x.c = y.c and x.a < y.a", [(1, 4)]),
                    ("select t.a, u.d, s.k from t join u on t.a = u.a left join (select 1 as k) as s on d = 10 and k = t.a",
                     [(1, 10, 1), (3, 10, None), (3, 30, None)]),
                    ("select t.a from t join (u join e on u.a = e.a) on t.a = u.a", [])))

    def test_queries_as_sources(self):
        self.check((("select x from (select a + 1 as x from t where c = 10) as s where x > 2", [(5,)]),
                    ("select s.b from (select b from t) as s where b is null", [(None,)]),
                    ("select n from v where b = 'x'", [(2,)]), ("select m from w", [(2,)]),
                    ("select x.n, y.m from v as x, w as y where x.b is null", [(1, 2)]),
                    ("select a from (select a from t order by a desc limit 2) as s", [(4,), (5,)])))

    def test_names_that_are_unknown_ambiguous_or_doubled(self):
        self.refuse(NameFault, (
            "select z from t", "select t.z from t", "select u.a from t", "select a from t, u", "select a from t as x, t as y",
            "select t.a from t as x", "select x from q", "select 1 from t, t", "select 1 from t as x, u as x",
            "select 1 from t join t on 1 = 1", "select 1 from t, (select 1 as y) as t", "select a from t where z = 1",
            "select a from t join e on q = 1", "select b from w", "select s.a from (select a, a from t) as s", "select n from w",
            "select t.b from v", "select a from t join u on a = 1", "select 1 from (t join u on a = 1), e",
            "select 1 from (select t.a as x) as s, t", "select 1 from t, (select t.a as x) as s",
            "select 1 from t join u on e.a = 1, e", "select a group by z", "select b from t having count(*) > z"))


class OutwardsTest(TranslateTest):
    def test_columns_outside(self):
        self.check((("select a from t where exists (select 1 from u where u.a = t.a)", [(1,), (3,)]),
                    ("select a from t where exists (select 1 from u where d = c and e = b)", [(1,)]),
                    ("select a, (select max(d) from u where u.a = t.a) from t where b = 'x'", [(1, 10), (3, 30)]),
                    ("select a from t where c in (select d from u where u.a < t.a)", [(4,)]),
                    ("select a from t where 2 <= (select count(*) from u where a = t.a)", [(3,)]),
                    ("select a from t where a in (select a from u)", [(1,), (3,)]),
                    ("select a from t where exists (select 1 from (select a as k from u where d = t.c) as s where k = t.a)",
                     [(1,), (3,)]),
                    ("select a from t where exists (select 1 from u where exists (select 1 where t.a = 5 and u.a = 9))", [(5,)]),
                    ("select a from t where exists (select 1 from u left join e on e.a = t.c where u.a = 4 + t.a)", [(5,)]),
                    ("select (select (select t.a)) from t where a < 3", [(1,), (2,)])))

    def test_the_inner_column_comes_first(self):
        self.check((("select b from t where exists (select 1 from u where a = 9 and d is null)",
                     [(None,), ("x",), ("x",), ("y",), ("z",)]),
                    ("select a from t where a = (select min(a) from u where u.a > 1)", [(3,)])))

    def test_views_see_no_columns_outside(self):
        found = catalog()
        found.views["x"] = "select t.a from u"
        with self.assertRaises(NameFault):
            translate(found, parse("select 1 from t where exists (select 1 from x)"))


class GroupsTest(TranslateTest):
    def test_groups(self):
        self.check((("select b, count(*) from t group by b", [(None, 1), ("x", 2), ("y", 1), ("z", 1)]),
                    ("select count(*), count(c), sum(c), min(b), max(b), count(distinct c), sum(distinct c) from t",
                     [(5, 4, 70, "x", "z", 3, 60)]),
                    ("select count(*), sum(a), min(f) from e", [(0, None, None)]), ("select count(*) from e group by a", []),
                    ("select 1 from e having count(*) = 0", [(1,)]), ("select 1 from t having 1 = 2", []), ("select count(*)", [(1,)]),
                    ("select b from t group by b having count(*) > 1", [("x",)]),
                    ("select a + 1 from t group by a + 1", [(2,), (3,), (4,), (5,), (6,)]),
                    ("select t.a + 1, (a + 1) * 2 from t where a < 3 group by a + 1", [(2, 4), (3, 6)]),
                    ("select b || '!', count(*) + 1 from t group by b having b like 'x' or min(a) = 2", [("x!", 3), ("y!", 2)]),
                    ("select case when c is null then 0 else c end from t group by c", [(0,), (10,), (20,), (30,)]),
                    ("select b from t group by b, c order by sum(a) desc, b", [("z",), (None,), ("x",), ("y",), ("x",)]),
                    ("select * from t group by a, b, c having a > 4", [(5, "z", 20)]), ("select 5 from t group by b", [(5,)] * 4),
                    ("select b from t group by b order by count(*) desc, 1 limit 2", [("x",), (None,)]),
                    ("select distinct count(*) from t group by b", [(1,), (2,)])))

    def test_aggregates_with_queries(self):
        self.check((("select sum((select count(*) from u where u.a = t.a)) from t", [(3,)]),
                    ("select b, (select count(*) from u) from t group by b having b = 'x'", [("x", 4)]),
                    ("select a from t where c = (select max(c) from t)", [(3,)]),
                    ("select a, (select t.a + sum(d) from u where u.a = t.a) from t where a < 4", [(1, 11), (2, None), (3, 43)])))

    def test_queries_that_are_keys(self):
        key = "(select max(d) from u where u.a = t.a)"
        self.check(((f"select {key}, count(*) from t group by {key}", [(None, 3), (10, 1), (30, 1)]),
                    (f"select {key} + 1 from t group by {key} having {key} > 10", [(31,)]),
                    (f"select count(*) from t group by {key} order by {key} desc", [(1,), (1,), (3,)])))

    def test_grouped_selects_within_each_other(self):
        text = "1"
        for _ in range(16):
            text = f"(select {text} from u where d = 30 group by (select 2))"
        self.check(((f"select {text}", [(1,)]),))

    def test_queries_see_only_what_is_around_the_select(self):
        self.refuse(NameFault, (
            "select (select t.a) from t group by a", "select a, (select max(d) from u where u.a = t.a) from t group by a",
            "select a, (select max(d) from u where u.a = t.c) from t group by a", "select a from t group by a having exists (select b)",
            "select a from t group by a order by (select t.a)", "select count(*) from t having c in (select a from u)",
            "select count(*) from t having 1 in (select t.a from u)", "select sum(a) + (select c) from t",
            "select a from t group by a having exists (select 1 from u where exists (select 1 where t.a = 1))"))
        self.check((("select a from t where exists (select (select t.a) from u group by u.a having (select t.a) = u.a)", [(1,), (3,)]),
                    ("select a from t where 2 = (select max((select t.a)) from u as t group by t.e having t.e = 'q')", []),
                    ("select a from t where 3 in (select (select a) from u group by u.d)", [(3,)])))

    def test_columns_that_are_no_keys(self):
        self.refuse(NameFault, (
            "select a from t group by b", "select a, count(*) from t", "select a + count(*) from t", "select * from t group by a",
            "select t.* from t group by a, b", "select count(*), * from t", "select b from t group by b having a > 1",
            "select b from t group by b order by a", "select a from t order by count(*)", "select a from t having 1 = 1",
            "select a from t group by a + 1", "select a + 2 from t group by a + 1", "select sum(a) + a from t",
            "select case when a = 1 then 1 else 2 end from t group by b", "select count(*) from t order by a",
            "select c from t group by b having count(*) > 1", "select a from t as x group by x.b", "select -a from t group by b"))

    def test_aggregates_where_none_may_stand(self):
        self.refuse(NameFault, (
            "select a from t where count(*) > 1", "select a from t where sum(a) = 1 group by a",
            "select t.a from t join u on count(*) = 1", "select t.a from t left join u on t.a = max(u.a)",
            "select sum(count(*)) from t", "select max(a + min(a)) from t", "select count(sum(a)) from t group by b",
            "select count(*) from t group by count(*)", "select a from t where a in (select a from u where max(d) > 1)",
            "select count(*) from t having sum(count(a)) > 1", "select count(*) from t order by max(max(a))"))

    def test_kinds(self):
        self.refuse(KindFault, (
            "select sum(b) from t", "select sum(a = 1) from t", "select count(a = 1) from t", "select min(b is null) from t",
            "select a from t group by a having a", "select a from t group by a having count(*)", "select 1 from t group by a = 1",
            "select max(a) || 'x' from t", "select count(b) || 'x' from t", "select max(b) + 1 from t", "select sum(distinct b) from t"))


class OrdersTest(TranslateTest):
    def test_rows_without_an_order(self):
        self.check((("select c, a from t", [(None, 2), (10, 1), (10, 4), (20, 5), (30, 3)]),
                    ("select b from t", [(None,), ("x",), ("x",), ("y",), ("z",)]),
                    ("select -a from t limit 2 offset 1", [(-4,), (-3,)])))

    def test_orders(self):
        self.check((("select a from t order by a desc", [(5,), (4,), (3,), (2,), (1,)]),
                    ("select a, c from t order by c desc, a desc", [(3, 30), (5, 20), (4, 10), (1, 10), (2, None)]),
                    ("select a, c from t order by c desc", [(3, 30), (5, 20), (1, 10), (4, 10), (2, None)]),
                    ("select a, c from t order by 2, 1 desc", [(2, None), (4, 10), (1, 10), (5, 20), (3, 30)]),
                    ("select a from t order by c", [(2,), (1,), (4,), (5,), (3,)]),
                    ("select a from t order by c desc limit 2", [(3,), (5,)]),
                    ("select a from t order by c, b", [(2,), (4,), (1,), (5,), (3,)]),
                    ("select a from t order by b desc, c desc, a", [(5,), (2,), (3,), (1,), (4,)]),
                    ("select a from t order by -a limit 1 offset 1", [(4,)]),
                    ("select a from t order by a mod 2, a", [(2,), (4,), (1,), (3,), (5,)]),
                    ("select a as c, c as x from t order by c desc limit 1", [(5, 20)]),
                    ("select -a as a from t order by a limit 1", [(-5,)]), ("select -a as x from t order by t.a limit 1", [(-1,)]),
                    ("select a from t order by (select max(d) from u where u.a = t.a) desc, a desc limit 2", [(3,), (1,)]),
                    ("select a from t order by null, 'x' limit 2", [(1,), (2,)]), ("select a from t limit 0", []),
                    ("select a from t offset 4", [(5,)]), ("select a from t limit 9 offset 9", [])))

    def test_distinct_rows(self):
        self.check((("select distinct b from t", [(None,), ("x",), ("y",), ("z",)]),
                    ("select distinct b as x from t order by x desc limit 2", [("z",), ("y",)]),
                    ("select distinct b, c from t order by 2 desc, b", [("x", 30), ("z", 20), (None, 10), ("x", 10), ("y", None)])))

    def test_orders_that_fit_nothing(self):
        self.refuse(NameFault, (
            "select a from t order by z", "select a from t order by 0", "select a from t order by 2", "select a from t order by -1",
            "select a from t order by u.a", "select b as x from t order by x + 1", "select a, b as a from t order by a",
            "select a, b from t order by 3 desc", "select a from t order by a, z"))

    def test_orders_of_distinct_rows_and_combinations(self):
        self.refuse(NameFault, (
            "select distinct a from t order by c", "select distinct a from t order by a + 1", "select distinct a from t order by t.a",
            "select distinct a from t order by 2", "select distinct a from t order by count(*)", "select distinct a from t order by null",
            "select a from t union select d from u order by d", "select a from t union select a from u order by a + 1",
            "select a from t union select a from u order by t.a", "select a from t union select a from u order by 2",
            "select a from t except select a from u order by 'x'", "select a, a from t union select a, a from u order by a"))
        self.check((("select a from t union select d from u order by a desc limit 2", [(30,), (10,)]),
                    ("select a, b from t intersect select 1, 'x' order by 2", [(1, "x")])))

    def test_orders_are_values(self):
        self.refuse(KindFault, ("select a from t order by a = 1", "select a from t order by b is null desc",
                                "select a from t order by a + b", "select a from t order by (select a, b from t)"))

    def test_output_field(self):
        columns = (("a", "int"), ("b", "text"), ("a", "text"), ("c", "null"))
        for number in (1, 2, 3, 4):
            self.assertEqual(output_field(columns, ("int", number)), ("field", 0, number - 1))
        self.assertEqual(output_field(columns, ("col", None, "b")), ("field", 0, 1))
        self.assertEqual(output_field(columns, ("col", None, "c")), ("field", 0, 3))
        for tree in (("col", None, "d"), ("col", "t", "b"), ("text", "b"), ("null",), ("neg", ("int", 1)),
                     ("op", "+", ("int", 1), ("int", 1))):
            self.assertIsNone(output_field(columns, tree))
        for tree in (("int", 0), ("int", 5), ("int", -1), ("col", None, "a")):
            with self.assertRaises(NameFault):
                output_field(columns, tree)


class CombinationsTest(TranslateTest):
    def test_combinations(self):
        self.check((("select c from t union select d from u", [(None,), (10,), (20,), (30,)]),
                    ("select c from t union all select d from u",
                     [(None,), (None,), (10,), (10,), (10,), (10,), (20,), (30,), (30,)]),
                    ("select c from t except select d from u", [(20,)]), ("select c from t except all select d from u", [(20,)]),
                    ("select d from u except all select c from t where a < 3", [(10,), (30,)]),
                    ("select c from t intersect all select d from u", [(None,), (10,), (10,), (30,)]),
                    ("select c from t intersect select d from u", [(None,), (10,), (30,)]),
                    ("select 1 union select 2 intersect select 3", [(1,)]), ("(select 1 union select 2) intersect select 2", [(2,)]),
                    ("select 1 union all (select 1 union select 1)", [(1,), (1,)]),
                    ("select 3 union select 2 except select 3 limit 1", [(2,)])))

    def test_sides_that_do_not_fit(self):
        self.refuse(KindFault, (
            "select 1 union select 1, 2", "select a, b from t except select a from u", "select * from t intersect select 1",
            "select 1 union select 'x'", "select a, b from t union all select b, a from t", "select null union select 1 union select 'x'",
            "select 1 from t where exists (select 1 union select 'x')"))


class KindsTest(TranslateTest):
    def test_conditions_and_values(self):
        self.refuse(KindFault, (
            "select a = 1 from t", "select exists (select 1)", "select a from t where a", "select a from t where b",
            "select t.a from t join u on t.a", "select t.a from t join u on t.b", "select a from t where 'x'", "select not null",
            "select a from t where a + 1", "select a from t where (select a from t)", "select a from t where a = b",
            "select a from t where a in (select b from t)", "select a from t where a in (select a, b from t)",
            "select (select a, b from t)", "select a from t where (select * from t) = 1", "select t.a from t join u on t.a = e"))


class PlansTest(TranslateTest):
    def test_tables(self):
        self.assertEqual(tables_of(translated("select n from v where exists (select 1 from u)")[0]), ("t", "u"))
        self.assertEqual(tables_of(translated("select 1")[0]), ())

    def test_plans_that_are_too_large(self):
        many = ", ".join(["1"] * 3000)
        self.refuse(PlanFault, (f"select {many}", f"select 1 where 1 in ({many})", f"select 1 from t group by {many}",
                                f"select 1 where exists (select 1 from t where a in ({many}))"))
        self.assertEqual(len(translated(f"select {', '.join(['1'] * 1000)}")[1]), 1000)
        self.rows(f"select 1 where 1 in ({', '.join(['1'] * 2900)})")

    def test_plans_that_are_too_deep(self):
        found = catalog()
        found.views["x0"] = "select a from t"
        for number in range(1, 400):
            found.views[f"x{number}"] = f"select a from x{number - 1}"
        plan, columns = translate(found, parse("select a from x20"))
        self.assertEqual((plan_rows(TABLES, plan), columns), ([(1,), (2,), (3,), (4,), (5,)], (("a", "int"),)))
        for number in (200, 201, 399):
            with self.assertRaises(PlanFault):
                translate(found, parse(f"select a from x{number}"))

    def test_a_plan_leaves_the_catalog_alone(self):
        found = catalog()
        shown = found.shown()
        translate(found, parse("select * from v, w"))
        with self.assertRaises(NameFault):
            translate(found, parse("select z from v"))
        self.assertEqual(found.shown(), shown)

    def test_order_of_all_rows(self):
        for text in ("select c, b, a from t", "select * from t, u", "select d, count(*) from u group by d", "select e from u union all select b from t"):
            rows = self.rows(text)
            self.assertEqual(rows, in_order(rows), text)


if __name__ == "__main__":
    unittest.main()
