"""Points 2, 7 and 8: bound expressions to values and truths, plans to rows, the plain way."""

import unittest

from tablestack.errors import KindFault, NameFault, PlanFault
from tablestack.evaluate import (
    Evaluator, aggregated, combined, distinct_rows, least_scalar, limited, member, sorted_once,
)
from tests.drawn_plans import HELD, drawn_source
from tests.trees import FALSE, FAULTY, NULL, TRUE, UNIT, cmp, equal, field, num, text, up

HIGHEST = 9223372036854775807
T, U, E = ("scan", "t", 3), ("scan", "u", 2), ("scan", "e", 2)


def rows_of(plan, rows=()):
    return Evaluator(drawn_source(), rows).plan_rows(plan)


class ValueTest(unittest.TestCase):
    """A row (5, None, "x") within a row (7, "y")."""

    def check(self, cases):
        here = Evaluator(drawn_source(), ((7, "y"),)).within((5, None, "x"))
        for tree, value in cases:
            self.assertIs(type(here.value_of(tree)), type(value), tree)
            self.assertEqual(here.value_of(tree), value, tree)

    def test_literals_and_fields(self):
        self.check((
            (NULL, None), (num(-3), -3), (text("a"), "a"), (TRUE, True), (FALSE, False), (("truth", None), None),
            (field(0), 5), (field(1), None), (field(2), "x"), (field(0, 1), 7), (field(1, 1), "y"),
        ))

    def test_arithmetic(self):
        self.check((
            (("op", "+", num(2), field(0)), 7), (("op", "-", num(2), num(5)), -3), (("op", "*", num(2), num(-5)), -10),
            (("op", "/", num(-7), num(2)), -4), (("op", "mod", num(-7), num(2)), 1),
            (("op", "mod", num(7), num(-2)), -1),
            (("op", "/", num(7), num(0)), None), (("op", "mod", num(7), num(0)), None),
            (("op", "+", NULL, num(1)), None),
            (("op", "+", num(HIGHEST), num(1)), None), (("op", "-", num(-HIGHEST), num(1)), None),
            (("op", "*", num(HIGHEST), num(-1)), -HIGHEST), (("op", "||", text("a"), field(2)), "ax"),
            (("op", "||", text("a"), NULL), None), (("neg", num(4)), -4), (("neg", NULL), None),
            (("neg", num(-HIGHEST)), HIGHEST),
        ))

    def test_comparisons(self):
        self.check((
            (cmp("=", num(1), num(1)), True), (cmp("<>", num(1), num(1)), False),
            (cmp("<", text("a"), text("b")), True),
            (cmp("<=", num(2), num(1)), False), (cmp(">", num(2), num(1)), True),
            (cmp(">=", text("a"), text("a")), True),
            (cmp("=", NULL, NULL), None), (cmp("<", NULL, text("a")), None), (cmp("<>", num(1), NULL), None),
            (("isnull", NULL, False), True), (("isnull", NULL, True), False), (("isnull", num(0), False), False),
            (("isnull", text(""), True), True), (("isnull", cmp("=", NULL, num(1)), False), True),
            (("between", num(2), num(1), num(2), False), True), (("between", num(3), num(1), num(2), False), False),
            (("between", num(3), NULL, num(2), False), False), (("between", num(2), NULL, num(2), False), None),
            (("between", NULL, num(1), num(2), True), None), (("between", num(3), NULL, num(2), True), True),
            (("between", text("b"), text("a"), text("c"), True), False),
            (("like", text("abc"), text("a*"), False), True), (("like", text("abc"), text("a_"), False), False),
            (("like", text("abc"), text("a_"), True), True), (("like", NULL, text("a"), False), None),
            (("like", text("a"), NULL, True), None),
        ))

    def test_three_truths(self):
        unknown = ("truth", None)
        table = {True: TRUE, False: FALSE, None: unknown}
        for one in table:
            for other in table:
                conjunction = False if False in (one, other) else None if None in (one, other) else True
                choice = True if True in (one, other) else None if None in (one, other) else False
                self.check(((("and", table[one], table[other]), conjunction),
                        (("or", table[one], table[other]), choice)))
            self.check(((("not", table[one]), None if one is None else not one),))

    def test_in(self):
        self.check((
            (("in", num(1), (num(2), num(1)), False), True), (("in", num(1), (num(2),), False), False),
            (("in", num(1), (num(2), NULL), False), None), (("in", num(1), (NULL, num(1)), False), True),
            (("in", NULL, (num(1),), False), None), (("in", NULL, (NULL,), True), None),
            (("in", num(1), (num(2),), True), True),
            (("in", num(1), (num(1), NULL), True), False), (("in", num(1), (num(2), NULL), True), None),
            (("in", text("a"), (text("b"), text("a")), False), True),
        ))

    def test_inquery(self):
        column = lambda tree, plan: ("project", (tree,), plan)
        self.check((
            (("inquery", num(3), column(field(0), T), False), True),
            (("inquery", num(6), column(field(0), T), False), False),
            (("inquery", num(9), column(field(1), T), False), None),
            (("inquery", num(2), column(field(1), T), False), True),
            (("inquery", NULL, column(field(0), T), False), None),
            (("inquery", num(6), column(field(0), T), True), True),
            (("inquery", num(9), column(field(1), T), True), None),
            (("inquery", num(1), column(field(1), E), False), False),
            (("inquery", NULL, column(field(1), E), False), False),
            (("inquery", NULL, column(field(1), E), True), True),
        ))

    def test_exists_and_scalar_queries(self):
        column = lambda tree, plan: ("project", (tree,), plan)
        self.check((
            (("exists", T), True), (("exists", E), False), (("exists", ("filter", FALSE, T)), False),
            (("exists", UNIT), True),
            (("scalar", column(field(0), T)), 1), (("scalar", column(field(0), E)), None),
            (("scalar", column(field(1), T)), None),
            (("scalar", column(field(1), ("filter", ("isnull", field(1), True), T))), 1),
            (("scalar", column(NULL, UNIT)), None),
            (("scalar", ("sort", ((field(0), True),), column(field(0), T))), 1),
            (("scalar", column(text("q"), UNIT)), "q"),
            (("scalar", ("limit", 1, 2, column(field(0), T))), 3),
        ))

    def test_queries_see_the_rows_around_them(self):
        self.check((
            (("scalar", ("project", (field(2, 1),), UNIT)), "x"), (("scalar", ("project", (field(0, 2),), UNIT)), 7),
            (("exists", ("filter", equal(field(0), field(0, 1)), T)), True),
            (("exists", ("filter", equal(field(0), ("op", "+", field(0, 1), field(0, 2))), T)), False),
            (("scalar", ("project", (("scalar", ("project", (field(1, 3),), UNIT)),), UNIT)), "y"),
            (("exists", ("filter", ("exists", ("filter", equal(field(0, 1), field(0, 2)), UNIT)), T)), True),
        ))

    def test_case(self):
        self.check((
            (("case", ((TRUE, num(1)), (TRUE, num(2))), num(3)), 1),
            (("case", ((FALSE, num(1)), (TRUE, num(2))), num(3)), 2),
            (("case", ((FALSE, num(1)), (("truth", None), num(2))), num(3)), 3),
            (("case", ((NULL, num(1)),), NULL), None),
            (("case", ((equal(field(0), num(5)), text("yes")),), text("no")), "yes"),
        ))

    def test_what_is_not_reached_does_not_fault(self):
        self.check((
            (("and", FALSE, FAULTY), False), (("or", TRUE, FAULTY), True),
            (("case", ((TRUE, num(1)), (FAULTY, num(2))), num(3)), 1),
            (("case", ((TRUE, num(1)),), ("neg", text("a"))), 1), (("case", ((FALSE, ("neg", text("a"))),), num(3)), 3),
            (("exists", ("filter", FAULTY, E)), False), (("scalar", ("project", (("neg", text("a")),), E)), None),
        ))

    def test_what_does_not_fit_faults(self):
        here = Evaluator(drawn_source()).within((5, "x"))
        for tree in (
            FAULTY, cmp("<", field(0), field(1)), ("and", TRUE, FAULTY), ("and", NULL, FAULTY), ("or", FALSE, FAULTY),
            ("op", "+", num(1), text("a")), ("op", "||", num(1), text("a")), ("neg", text("a")),
            ("like", num(1), text("a"), False),
            ("in", num(1), (text("a"),), False), ("between", num(1), num(1), text("a"), False), ("not", FAULTY),
            ("inquery", num(1), ("project", (text("a"),), UNIT), False),
            ("scalar", ("project", (("neg", text("a")),), UNIT)),
        ):
            with self.assertRaises(KindFault, msg=tree):
                here.value_of(tree)

    def test_unknown_expressions_and_fields(self):
        here = Evaluator(drawn_source()).within((5, "x"))
        for tree in (("agg", "sum", num(1), False), ("col", None, "a"), ("xor", TRUE, TRUE), field(2), field(0, 1),
            field(-1)):
            with self.assertRaises(PlanFault, msg=tree):
                here.value_of(tree)

    def test_rows(self):
        here = Evaluator(None, [(1,), (2, 3)])
        self.assertEqual(here.rows, ((1,), (2, 3)))
        self.assertEqual(here.within((4,)).rows, ((4,), (1,), (2, 3)))
        self.assertEqual(here.rows, ((1,), (2, 3)))
        self.assertEqual(Evaluator(None).rows, ())


class PartsTest(unittest.TestCase):
    def test_member(self):
        for value, values, truth in (
            (1, [1, None], True), (1, [None, 1], True), (1, [2, None], None), (1, [2], False), (1, [], False),
            (None, [], False),
            (None, [1], None), (None, [None], None), ("a", ["b", "a"], True),
        ):
            self.assertIs(member(value, values), truth)
        for value, values in ((1, ["a"]), ("a", [None, 1])):
            self.assertRaises(KindFault, member, value, values)

    def test_least_scalar(self):
        for rows, value in (([], None), ([(3,), (2,)], 2), ([(3,), (None,)], None), ([("b",), ("a",)], "a")):
            self.assertEqual(least_scalar(rows), value)

    def test_sorted_once(self):
        self.assertEqual(sorted_once([3, 1, 3, 2, 1]), [1, 2, 3])
        self.assertEqual(sorted_once(["b", None, "a", 5, "b", None]), [None, 5, "a", "b"])
        self.assertEqual(sorted_once([]), [])

    def test_aggregated(self):
        for name, values, value in (
            ("count", [], 0), ("count", [4, 4], 2), ("sum", [], None), ("sum", [4, 4], 8), ("min", [], None),
            ("max", [], None),
            ("min", [3, 2], 2), ("max", ["a", "b"], "b"), ("sum", [HIGHEST, 1], None),
            ("sum", [HIGHEST, 1, -1], HIGHEST),
            ("sum", [-HIGHEST, -1], None),
        ):
            self.assertEqual(aggregated(name, values), value)
        self.assertRaises(KindFault, aggregated, "sum", ["a"])

    def test_distinct_rows(self):
        self.assertEqual(distinct_rows([(2,), (1,), (2,), (None,), (1,)]), [(2,), (1,), (None,)])
        self.assertEqual(distinct_rows([]), [])

    def test_combined(self):
        one = [(1,), (2,), (1,), (None,), (1,)]
        other = [(1,), (3,), (1,), (None,), (None,)]
        for word, whole, rows in (
            ("union", True, one + other), ("union", False, [(1,), (2,), (None,), (3,)]), ("except", False, [(2,)]),
            ("except", True, [(2,), (1,)]), ("intersect", False, [(1,), (None,)]),
            ("intersect", True, [(1,), (1,), (None,)]),
        ):
            self.assertEqual(combined(word, whole, one, other), rows, (word, whole))
            self.assertEqual(combined(word, whole, [], []), [])
        self.assertEqual(combined("except", True, one, []), one)
        self.assertEqual(combined("intersect", True, one, []), [])
        self.assertEqual(combined("except", False, [], other), [])

    def test_limited(self):
        rows = [1, 2, 3, 4]
        for limit, offset, found in (
            (None, 0, rows), (2, 0, [1, 2]), (2, 1, [2, 3]), (None, 3, [4]), (0, 0, []), (9, 0, rows), (9, 9, []),
            (None, 4, []),
            (HIGHEST, HIGHEST, []), (HIGHEST, 0, rows), (-1, 0, []), (-9, 1, []), (None, -2, rows), (2, -2, [1, 2]),
        ):
            self.assertEqual(limited(limit, offset, rows), found, (limit, offset))


class PlanRowsTest(unittest.TestCase):
    def check(self, cases):
        for plan, rows in cases:
            self.assertEqual(rows_of(plan), rows, plan)

    def test_scans_filters_and_projections(self):
        self.check((
            (UNIT, [()]), (T, HELD["t"]), (E, []), (("filter", cmp(">", field(0), num(5)), T),
             [(7, 3, "y"), (8, 2, "x")]),
            (("filter", NULL, T), []), (("filter", TRUE, UNIT), [()]),
            (("filter", cmp("<>", field(0), num(2)), U), [(1, None), (4, "z")]),
            (("project", (field(1), num(3)), ("limit", 2, 0, U)), [("x", 3), ("y", 3)]),
            (("project", (), ("limit", 2, 0, U)), [(), ()]),
            (("project", (num(1),), UNIT), [(1,)]), (("project", (num(1),), E), []),
        ))

    def test_inner_joins(self):
        self.check((
            (("join", False, equal(field(0), field(3)), T, U),
             [(1, 2, "x", 1, None), (2, None, "y", 2, "x"), (2, None, "y", 2, "x"), (4, 1, "x", 4, "z")]),
            (("join", False, None, ("limit", 2, 0, U), ("limit", 1, 3, U)), [(2, "x", 2, "x"), (None, "y", 2, "x")]),
            (("join", False, None, U, E), []), (("join", False, TRUE, E, U), []), (("join", False, NULL, U, U), []),
            (("join", False, None, UNIT, ("limit", 1, 0, U)), [(2, "x")]),
        ))

    def test_left_joins_keep_rows_without_a_partner(self):
        blank = (None, None)
        self.check((
            (("join", True, equal(field(0), field(2)), ("limit", 3, 0, U),
              ("filter", cmp("=", field(1), text("x")), U)),
             [(2, "x", 2, "x"), (2, "x", 2, "x"), (None, "y", *blank), (1, None, *blank)]),
            (("join", True, None, ("limit", 2, 0, U), E), [(2, "x", *blank), (None, "y", *blank)]),
            (("join", True, NULL, ("limit", 1, 0, U), U), [(2, "x", *blank)]), (("join", True, None, E, U), []),
            (("join", True, FALSE, UNIT, U), [blank]), (("join", True, None, ("limit", 1, 0, U), UNIT), [(2, "x")]),
            (("join", True, FALSE, ("limit", 1, 0, U), UNIT), [(2, "x")]),
        ))

    def test_groups(self):
        calls = (("count", None, False), ("count", field(1), False), ("count", field(1), True),
            ("sum", field(1), False),
                 ("sum", field(1), True), ("min", field(1), False), ("max", field(1), False))
        self.check((
            (("group", (field(2),), calls, T), [
                ("x", 3, 3, 2, 5, 3, 1, 2), ("y", 2, 1, 1, 3, 3, 3, 3), (None, 2, 1, 1, 2, 2, 2, 2)]),
            (("group", (), calls, T), [(7, 5, 3, 10, 6, 1, 3)]),
            (("group", (), calls, E), [(0, 0, 0, None, None, None, None)]),
            (("group", (field(0),), calls, E), []), (("group", (), (), E), [()]), (("group", (), (), T), [()]),
            (("group", (field(1),), (), U), [("x",), ("y",), (None,), ("z",)]),
            (("group", (field(1), equal(field(0), num(2))), (("max", field(0), False),), U),
             [("x", True, 2), ("y", None, None), (None, False, 1), ("z", False, 4)]),
            (("group", (), (("sum", num(HIGHEST), False), ("min", text("a"), True)), U), [(None, "a")]),
            (("group", (), (("sum", num(HIGHEST), True),), U), [(HIGHEST,)]),
            (("group", (NULL,), (("count", NULL, False),), U), [(None, 0)]),
        ))

    def test_distincts_and_combinations(self):
        numbers = ("project", (field(0),), U)
        self.check((
            (("distinct", U), [(2, "x"), (None, "y"), (1, None), (4, "z")]), (("distinct", E), []),
            (("union", False, numbers, ("project", (num(5),), U)), [(2,), (None,), (1,), (4,), (5,)]),
            (("union", True, numbers, numbers), [(2,), (None,), (1,), (2,), (4,)] * 2),
            (("except", True, numbers, ("project", (num(2),), UNIT)), [(None,), (1,), (2,), (4,)]),
            (("except", False, numbers, ("project", (num(2),), UNIT)), [(None,), (1,), (4,)]),
            (("intersect", True, numbers, ("project", (num(2),), U)), [(2,), (2,)]),
            (("intersect", False, numbers, ("project", (field(0),), T)), [(2,), (1,), (4,)]),
        ))

    def test_sorts(self):
        plan = ("project", (field(1), field(0)), T)
        self.check((
            (("sort", up(0), U), [(None, "y"), (1, None), (2, "x"), (2, "x"), (4, "z")]),
            (("sort", ((field(0), True),), plan), [(3, 7), (2, 1), (2, 3), (2, 8), (1, 4), (None, 2), (None, 5)]),
            (("sort", ((field(0), True), (field(1), True)), plan),
             [(3, 7), (2, 8), (2, 3), (2, 1), (1, 4), (None, 5), (None, 2)]),
            (("sort", ((field(0), False), (field(1), True)), plan),
             [(None, 5), (None, 2), (1, 4), (2, 8), (2, 3), (2, 1), (3, 7)]),
            (("sort", ((("neg", field(0)), False),), plan), [(None, 2), (None, 5), (3, 7), (2, 1), (2, 3), (2, 8),
              (1, 4)]),
            (("sort", (), plan), rows_of(plan)), (("sort", ((num(1), True),), plan), rows_of(plan)),
            (("sort", up(0), E), []),
        ))

    def test_limits(self):
        self.check((
            (("limit", 2, 1, T), HELD["t"][1:3]), (("limit", None, 5, T), HELD["t"][5:]), (("limit", 0, 0, T), []),
            (("limit", -1, 0, T), []), (("limit", 2, -3, T), HELD["t"][:2]), (("limit", HIGHEST, 6, T), HELD["t"][6:]),
            (("limit", 1, HIGHEST, T), []),
        ))

    def test_plans_within_rows(self):
        plan = ("filter", equal(field(0), field(0, 1)), T)
        self.assertEqual(rows_of(plan, ((3,),)), [(3, 2, None)])
        self.assertEqual(rows_of(("project", (field(0, 1), field(1, 2)), UNIT), ((3,), (4, 5))), [(3, 5)])
        self.assertEqual(rows_of(("join", True, cmp("<", field(3), field(0, 1)), ("limit", 1, 0, T), U), ((2,),)),
            [(1, 2, "x", 1, None)])
        self.assertEqual(rows_of(("group", (field(0, 1),), (("sum", field(1, 1), False),), U), ((3, 4),)), [(3, 20)])

    def test_unknown_plans_and_tables(self):
        for plan in (("range", "t", (None, None), TRUE), ("nested", False, None, T, U, 2), ("walk", T),
            ("filter", TRUE, ("x",))):
            with self.assertRaises(PlanFault, msg=plan):
                rows_of(plan)
        self.assertRaises(NameFault, rows_of, ("scan", "none", 1))
        self.assertRaises(KindFault, rows_of, ("filter", FAULTY, T))
        self.assertEqual(rows_of(("filter", FAULTY, E)), [])


if __name__ == "__main__":
    unittest.main()
