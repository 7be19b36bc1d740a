"""Point 8: plans, their inputs, widths, tables and fields, and how large they may be."""

import unittest

from tablestack.errors import PlanFault
from tablestack.plans import (
    bound_parts, check_plan, expressions_of, fields_in, has_query, inputs, is_correlated, moved_fields, plan_size, tables_of,
    width, with_bound_parts, with_expressions, with_inputs,
)

UNIT = ("unit",)
T, U = ("scan", "t", 3), ("scan", "u", 2)
F0, F1, F2 = [("field", 0, place) for place in range(3)]
O0, O1 = [("field", 1, place) for place in range(2)]
TEST = ("cmp", "=", F0, F1)
CALLS = (("count", None, False), ("sum", F1, True), ("max", F2, False))
# Each plan with its inputs, its width and its own expressions.
PLANS = (
    (UNIT, (), 0, ()), (T, (), 3, ()), (("filter", TEST, T), (T,), 3, (TEST,)),
    (("project", (F0, F1), T), (T,), 2, (F0, F1)), (("project", (), UNIT), (UNIT,), 0, ()),
    (("join", False, TEST, T, U), (T, U), 5, (TEST,)), (("join", True, TEST, U, U), (U, U), 4, (TEST,)),
    (("join", False, None, T, UNIT), (T, UNIT), 3, ()), (("group", (F2, F0), CALLS, T), (T,), 5, (F2, F0, F1, F2)),
    (("group", (), (("count", None, False),), T), (T,), 1, ()), (("group", (F0,), (), U), (U,), 1, (F0,)),
    (("distinct", U), (U,), 2, ()), (("union", True, T, T), (T, T), 3, ()), (("except", False, U, U), (U, U), 2, ()),
    (("intersect", True, U, U), (U, U), 2, ()), (("sort", ((F1, True), (F0, False)), T), (T,), 3, (F1, F0)),
    (("sort", (), T), (T,), 3, ()), (("limit", None, 4, T), (T,), 3, ()), (("limit", 2, 0, U), (U,), 2, ()),
)
PLAN = ("project", (O0,), ("filter", ("cmp", "=", F0, O1), U))
# Each bound expression with its direct parts.
TREES = (
    (("field", 0, 1), ()), (("truth", True), ()), (("truth", None), ()), (("null",), ()), (("int", 5), ()), (("text", "x"), ()),
    (("op", "+", F0, F1), (F0, F1)), (("neg", F0), (F0,)), (TEST, (F0, F1)), (("and", TEST, TEST), (TEST, TEST)),
    (("or", TEST, F0), (TEST, F0)), (("not", TEST), (TEST,)), (("isnull", F2, True), (F2,)),
    (("in", F0, (F1, F2), False), (F0, F1, F2)), (("in", F0, (F1,), True), (F0, F1)), (("inquery", F1, PLAN, True), (F1,)),
    (("between", F0, F1, F2, False), (F0, F1, F2)), (("like", F0, F1, True), (F0, F1)),
    (("case", ((TEST, F0), (F1, F2)), ("null",)), (TEST, F0, F1, F2, ("null",))), (("exists", PLAN), ()), (("scalar", PLAN), ()),
)


class PlansTest(unittest.TestCase):
    def test_inputs_widths_and_expressions(self):
        for plan, inner, many, trees in PLANS:
            self.assertEqual(inputs(plan), inner, plan)
            self.assertEqual(width(plan), many, plan)
            self.assertEqual(expressions_of(plan), trees, plan)

    def test_queries_in_expressions(self):
        for tree, _ in TREES:
            wanted = tree[0] in ("exists", "scalar", "inquery")
            self.assertEqual(has_query(tree), wanted)
            self.assertEqual(has_query(("and", TEST, ("case", ((TEST, tree),), F0))), wanted)

    def test_other_inputs(self):
        for plan, inner, _, trees in PLANS:
            self.assertEqual(with_inputs(plan, inner), plan)
            other = with_inputs(plan, tuple(("distinct", one) for one in inner))
            self.assertEqual(inputs(other), tuple(("distinct", one) for one in inner))
            self.assertEqual((other[0], expressions_of(other), len(other)), (plan[0], trees, len(plan)))

    def test_other_expressions(self):
        for plan, inner, _, trees in PLANS:
            self.assertEqual(with_expressions(plan, trees), plan)
            other = with_expressions(plan, tuple(("neg", tree) for tree in trees))
            self.assertEqual(expressions_of(other), tuple(("neg", tree) for tree in trees))
            self.assertEqual((other[0], inputs(other), width(other)), (plan[0], inner, width(plan)))
        self.assertEqual(with_expressions(("group", (F0,), CALLS, T), (F1, F2, O0)),
                         ("group", (F1,), (("count", None, False), ("sum", F2, True), ("max", O0, False)), T))
        self.assertEqual(with_expressions(("sort", ((F1, True), (F0, False)), T), (F2, F1)), ("sort", ((F2, True), (F1, False)), T))

    def test_unknown_plans(self):
        for plan in (("select",), ("field", 0, 0), ("table", "t")):
            for call in (inputs, width, tables_of, check_plan, plan_size):
                with self.assertRaises(PlanFault, msg=plan):
                    call(plan)

    def test_tables_of(self):
        self.assertEqual(tables_of(UNIT), ())
        self.assertEqual(tables_of(("join", False, None, U, ("join", False, None, T, U))), ("t", "u"))
        self.assertEqual(tables_of(("filter", ("exists", PLAN), T)), ("t", "u"))
        inner = ("filter", ("not", ("inquery", F0, ("project", (("scalar", ("scan", "w", 1)),), ("scan", "v", 1)), False)), U)
        self.assertEqual(tables_of(("project", (("op", "+", F0, ("scalar", inner)),), UNIT)), ("u", "v", "w"))
        self.assertEqual(tables_of(("group", (), (("sum", ("scalar", T), False),), U)), ("t", "u"))

    def test_plan_size(self):
        self.assertEqual(plan_size(UNIT), 1)
        self.assertEqual(plan_size(("join", False, TEST, ("filter", TEST, T), ("distinct", U))), 5)
        self.assertEqual(plan_size(("filter", ("exists", PLAN), T)), 2)


class PartsTest(unittest.TestCase):
    def test_parts(self):
        for tree, parts in TREES:
            self.assertEqual(bound_parts(tree), parts, tree)

    def test_other_parts(self):
        for tree, parts in TREES:
            self.assertEqual(with_bound_parts(tree, parts), tree)
            other = with_bound_parts(tree, tuple(("not", part) for part in parts))
            self.assertEqual(bound_parts(other), tuple(("not", part) for part in parts), tree)
            self.assertEqual((other[0], len(other)), (tree[0], len(tree)))
        self.assertEqual(with_bound_parts(("inquery", F1, PLAN, True), (F0,)), ("inquery", F0, PLAN, True))
        self.assertEqual(with_bound_parts(("between", F0, F1, F2, True), (F2, F1, F0)), ("between", F2, F1, F0, True))

    def test_unknown_expressions(self):
        for tree in (("col", None, "a"), ("agg", "count", None, False), ("scan", "t", 1)):
            for call in (bound_parts, fields_in, is_correlated, lambda one: with_bound_parts(one, ())):
                with self.assertRaises(PlanFault, msg=tree):
                    call(tree)


class FieldsTest(unittest.TestCase):
    def test_fields_of_a_row(self):
        self.assertEqual(fields_in(("op", "+", F2, ("op", "*", F0, F2))), (0, 2))
        self.assertEqual(fields_in(("op", "+", F2, O1)), (2,))
        self.assertEqual(fields_in(("op", "+", F2, O1), 1), (1,))
        self.assertEqual(fields_in(("int", 1)), ())
        self.assertEqual(fields_in(("case", ((TEST, F2),), O0)), (0, 1, 2))

    def test_fields_in_queries(self):
        self.assertEqual(fields_in(("scalar", PLAN)), (0, 1))
        self.assertEqual(fields_in(("scalar", PLAN), 1), ())
        self.assertEqual(fields_in(("inquery", F2, PLAN, False)), (0, 1, 2))
        deeper = ("exists", ("filter", ("exists", ("project", (("field", 2, 5), ("field", 1, 6), ("field", 3, 7)), UNIT)), T))
        self.assertEqual(fields_in(deeper), (5,))
        self.assertEqual(fields_in(deeper, 1), (7,))
        below = ("scalar", ("distinct", ("sort", ((O1, False),), ("join", False, ("cmp", "=", O0, F0), T, U))))
        self.assertEqual(fields_in(below), (0, 1))

    def test_is_correlated(self):
        for tree in (O0, ("op", "+", F0, O0), ("exists", ("filter", ("field", 2, 0), T)), ("inquery", O1, UNIT, False)):
            self.assertTrue(is_correlated(tree), tree)
        for tree in (F0, ("int", 1), ("scalar", PLAN), ("exists", ("filter", ("exists", ("filter", ("field", 2, 0), T)), T))):
            self.assertFalse(is_correlated(tree), tree)

    def test_moved_fields(self):
        self.assertEqual(moved_fields(("op", "+", F0, ("op", "*", F1, O0)), {0: 7, 1: 0}),
                         ("op", "+", ("field", 0, 7), ("op", "*", F0, O0)))
        self.assertEqual(moved_fields(("op", "+", F0, O0), {0: 7}, 1), ("op", "+", F0, ("field", 1, 7)))
        self.assertEqual(moved_fields(("text", "x"), {}), ("text", "x"))
        self.assertEqual(moved_fields(("inquery", F1, PLAN, True), {0: 5, 1: 6}), (
            "inquery", ("field", 0, 6), ("project", (("field", 1, 5),), ("filter", ("cmp", "=", F0, ("field", 1, 6)), U)), True))
        deeper = ("exists", ("filter", ("scalar", ("project", (("field", 2, 1), ("field", 1, 1)), T)), U))
        self.assertEqual(moved_fields(deeper, {1: 4}),
                         ("exists", ("filter", ("scalar", ("project", (("field", 2, 4), ("field", 1, 1)), T)), U)))
        grouped = ("scalar", ("group", (O0,), (("count", None, False), ("sum", O1, True)), ("limit", 1, 0, ("sort", ((O1, True),), T))))
        self.assertEqual(moved_fields(grouped, {0: 8, 1: 9}), (
            "scalar", ("group", (("field", 1, 8),), (("count", None, False), ("sum", ("field", 1, 9), True)),
                       ("limit", 1, 0, ("sort", ((("field", 1, 9), True),), T)))))


class SizeTest(unittest.TestCase):
    def deep_plan(self, many):
        plan = UNIT
        for _ in range(many - 1):
            plan = ("distinct", plan)
        return plan

    def deep_tree(self, many):
        tree = F0
        for _ in range(many - 1):
            tree = ("not", tree)
        return tree

    def wide_plan(self, many):
        if many <= 2:
            return self.deep_plan(many)
        left = (many - 1) // 2
        return ("union", True, self.wide_plan(left), self.wide_plan(many - 1 - left))

    def check(self, right, wrong):
        self.assertIs(check_plan(right), right)
        with self.assertRaises(PlanFault):
            check_plan(wrong)

    def test_200_and_201_deep(self):
        self.check(self.deep_plan(200), self.deep_plan(201))
        self.check(("filter", self.deep_tree(199), T), ("filter", self.deep_tree(200), T))
        self.check(("project", (F0, self.deep_tree(199)), T), ("project", (F0, self.deep_tree(200)), T))
        self.check(("join", True, TEST, T, self.deep_plan(199)), ("join", True, TEST, T, self.deep_plan(200)))
        self.check(("filter", ("exists", self.deep_plan(198)), T), ("filter", ("exists", self.deep_plan(199)), T))

    def test_3000_and_3001_parts(self):
        self.check(self.wide_plan(3000), self.wide_plan(3001))
        self.check(("project", (F0,) * 2998, UNIT), ("project", (F0,) * 2999, UNIT))
        self.check(("filter", ("in", F0, (("int", 1),) * 2996, False), T), ("filter", ("in", F0, (("int", 1),) * 2997, False), T))
        self.check(("filter", ("exists", self.wide_plan(2997)), T), ("filter", ("exists", self.wide_plan(2998)), T))

    def test_plans_far_too_large(self):
        for plan in (self.deep_plan(100000), ("project", (F0,) * 100000, UNIT)):
            with self.assertRaises(PlanFault):
                check_plan(plan)


if __name__ == "__main__":
    unittest.main()
