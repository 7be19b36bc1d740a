"""Point 11: expressions as rows of a stack machine, the need of a stack, invalid rows."""

import unittest

from tablestack.errors import KindFault, PlanFault
from tablestack.evaluate import Evaluator
from tablestack.exprcode import carried, compile_expression, operation_row, run_rows, stack_change, stack_need
from tablestack.plans import has_query
from tests.drawn_plans import PlanDrawer, drawn_source
from tests.trees import FALSE, FAULTY, NULL, TRUE, UNIT, both, cmp, equal, field, num, text

F0, F1, F2 = [field(place) for place in range(3)]
# Each operation with its row, values and what it leaves.
OPERATIONS = (
    (("op", "+", F0, F1), ("op", "+"), (2, 3), 5), (("op", "-", F0, F1), ("op", "-"), (2, 3), -1),
    (("op", "*", F0, F1), ("op", "*"), (2, 3), 6),
    (("op", "/", F0, F1), ("op", "/"), (-7, 2), -4), (("op", "mod", F0, F1), ("op", "mod"), (7, 0), None),
    (("op", "||", F0, F1), ("op", "||"), ("a", "b"), "ab"),
    (equal(F0, F1), ("cmp", "="), (2, 2), True), (cmp("<>", F0, F1), ("cmp", "<>"), (2, 2), False),
    (cmp("<", F0, F1), ("cmp", "<"), (None, 2), None),
    (cmp("<=", F0, F1), ("cmp", "<="), ("a", "a"), True), (cmp(">", F0, F1), ("cmp", ">"), (2, 3), False),
    (cmp(">=", F0, F1), ("cmp", ">="), (2, 3), False),
    (("and", F0, F1), ("and",), (None, False), False), (("or", F0, F1), ("or",), (None, False), None),
    (("not", F0), ("not",), (False,), True),
    (("neg", F0), ("neg",), (5,), -5), (("isnull", F0, False), ("isnull", False), (None,), True),
    (("isnull", F0, True), ("isnull", True), (None,), False),
    (("between", F0, F1, F2, False), ("between", False), (2, 1, 3), True),
    (("between", F0, F1, F2, True), ("between", True), (2, 1, None), None),
    (("like", F0, F1, False), ("like", False), ("ab", "a_"), True),
    (("like", F0, F1, True), ("like", True), ("ab", "a_"), False),
    (("in", F0, (F1,), False), ("in", 1, False), (2, 2), True),
    (("in", F0, (F1, F2), True), ("in", 2, True), (2, 1, None), None),
)
CASE = ("case", ((equal(F0, num(1)), text("one")), (("isnull", F0, False), NULL)), ("op", "||", F1, text("!")))


class CodeTest(unittest.TestCase):
    def test_operation_rows(self):
        for tree, row, values, result in OPERATIONS:
            self.assertEqual(operation_row(tree), row)
            self.assertEqual(carried(row, values), result, row)
            self.assertEqual(carried(row, list(values)), result, row)
        for tree in (NULL, num(1), text("a"), TRUE, F0, CASE, ("exists", UNIT), ("scalar", UNIT),
            ("inquery", F0, UNIT, False), ("agg", "count", None, False)):
            with self.assertRaises(PlanFault, msg=tree):
                operation_row(tree)

    def test_compiled_expressions(self):
        for tree, rows in (
            (NULL, (("push", None),)), (num(5), (("push", 5),)), (text("a"), (("push", "a"),)),
            (TRUE, (("push", True),)), (field(1, 2), (("field", 2, 1),)),
            (("op", "+", F0, ("neg", num(2))), (("field", 0, 0), ("push", 2), ("neg",), ("op", "+"))),
            (("in", F0, (num(1), F1), True), (("field", 0, 0), ("push", 1), ("field", 0, 1), ("in", 2, True))),
            (both(TRUE, ("not", ("like", F0, F1, False))), (("push", True), ("field", 0, 0), ("field", 0, 1),
              ("like", False), ("not",), ("and",))),
            (("between", F0, num(1), num(2), False), (("field", 0, 0), ("push", 1), ("push", 2), ("between", False))),
            (CASE, (("field", 0, 0), ("push", 1), ("cmp", "="), ("unless", 6), ("push", "one"), ("jump", 14),
              ("field", 0, 0), ("isnull", False),
                    ("unless", 11), ("push", None), ("jump", 14), ("field", 0, 1), ("push", "!"), ("op", "||"))),
            (("neg", ("case", ((TRUE, num(1)),), num(2))), (("push", True), ("unless", 4), ("push", 1), ("jump", 5),
              ("push", 2), ("neg",))),
        ):
            self.assertEqual(compile_expression(tree), rows, tree)
        for tree in (("exists", UNIT), ("scalar", UNIT), ("inquery", F0, UNIT, False), both(TRUE, ("exists", UNIT)),
            ("case", ((TRUE, num(1)),), ("scalar", UNIT)),
                     ("agg", "count", None, False), ("col", None, "a"), ("neg", ("what",))):
            with self.assertRaises(PlanFault, msg=tree):
                compile_expression(tree)

    def test_stacks(self):
        for row, change in (
            (("push", 1), 1), (("field", 0, 1), 1), (("op", "+"), -1), (("cmp", "="), -1), (("and",), -1),
            (("or",), -1), (("not",), 0), (("neg",), 0),
            (("isnull", True), 0), (("between", False), -2), (("like", True), -1), (("in", 1, False), -1),
            (("in", 5, False), -5), (("jump", 3), -1), (("unless", 3), -1),
        ):
            self.assertEqual(stack_change(row), change, row)
        for tree, need in (
            (num(1), 1), (("op", "+", F0, F1), 2), (("op", "+", F0, ("op", "+", F1, F2)), 3),
            (("op", "+", ("op", "+", F0, F1), F2), 2), (("in", F0, (F1,) * 7, False), 8),
            (CASE, 2), (("case", ((TRUE, F0), (TRUE, F0)), ("between", F0, F1, F2, False)), 3),
            (("between", F0, F1, ("neg", F2), False), 3),
        ):
            self.assertEqual(stack_need(compile_expression(tree)), need, tree)
        self.assertEqual(stack_need(()), 0)
        self.assertEqual(stack_need((("push", 1), ("push", 2), ("and",))), 2)

    def test_rows_give_what_expressions_are(self):
        source = drawn_source()
        for seed in range(600):
            drawer = PlanDrawer(seed)
            scopes = [("int", "text", "int"), ("text", "int")]
            tree = drawer.truth(3, scopes) if drawer.flag() else drawer.value(drawer.chance.choice(("int", "text")), 3,
                scopes)
            if has_query(tree):
                self.assertRaises(PlanFault, compile_expression, tree)
                continue
            rows = compile_expression(tree)
            for fields in (((1, "x", None), ("y", 2)), ((None, None, 2), (None, -1)), ((4, "", 0), ("x", 3))):
                value = Evaluator(source, fields).value_of(tree)
                self.assertEqual((run_rows(rows, fields), type(run_rows(rows, fields))), (value, type(value)))
                self.assertLessEqual(len(rows), 400)

    def test_choices(self):
        rows = compile_expression(CASE)
        for row, value in (((1, "a"), "one"), ((None, "a"), None), ((5, "a"), "a!"), ((5, None), None)):
            self.assertEqual(run_rows(rows, (row,)), value)
        self.assertEqual(run_rows(compile_expression(("case", ((FALSE, ("neg", text("a"))),), num(3))), ()), 3)
        self.assertEqual(run_rows(compile_expression(("case", ((NULL, num(1)), (TRUE, num(2))), FAULTY)), ()), 2)

    def test_fields(self):
        self.assertEqual(run_rows((("field", 1, 0),), ((1, 2), (3,))), 3)
        for row in (("field", 2, 0), ("field", 0, 2), ("field", -1, 0), ("field", 0, -1)):
            with self.assertRaises(PlanFault):
                run_rows((row,), ((1, 2), (3,)))

    def test_kinds(self):
        for tree in (FAULTY, ("neg", text("a")), ("op", "||", num(1), text("a")), ("in", num(1), (text("a"),), False)):
            self.assertRaises(KindFault, run_rows, compile_expression(tree), ())
        self.assertRaises(KindFault, carried, ("op", "+"), (1, "a"))

    def test_values_too_many_or_too_few(self):
        for rows in (
            (), (("push", 1), ("push", 2)), (("and",),), (("push", True), ("and",)), (("push", 1), ("unless", 2)),
            (("unless", 1), ("push", 1)), (("not",), ("push", 1)),
            (("push", 1), ("push", 2), ("in", 2, False)), (("push", 1), ("push", 2), ("push", 3), ("in", 1, False)),
            (("jump", 1),), (("push", 1), ("neg",), ("neg",), ("or",)),
            (("push", 1), ("push", 2), ("between", False)),
        ):
            with self.assertRaises(PlanFault, msg=rows):
                run_rows(rows, ())

    def test_jumps(self):
        for rows, value in (
            ((("push", 1), ("jump", 2)), 1), ((("push", 1), ("jump", 9)), 1),
            ((("jump", 2), ("push", 5), ("push", 1)), 1), ((("push", 1), ("push", False), ("unless", 9), ("neg",)), 1),
            ((("push", 1), ("push", True), ("unless", 9), ("neg",)), -1),
            ((("push", 1), ("push", None), ("unless", 4), ("neg",)), 1),
            ((("jump", 2), ("jump", 4), ("push", 1), ("jump", 1)), 1),
            ((("push", 1), ("push", 5), ("unless", 4), ("neg",)), 1),
        ):
            self.assertEqual(run_rows(rows, ()), value, rows)
        for rows in (
            (("jump", 0),), (("push", 1), ("jump", 0)), (("push", 1), ("jump", 1)), (("push", False), ("unless", 0)),
            (("jump", 1), ("jump", 0)), (("jump", -1), ("push", 1)),
            (("push", 1), ("jump", -1)), (("jump", 9), ("push", 1)), (("push", 1), ("push", False), ("unless", -2)),
            (("push", 1), ("push", 2), ("jump", 9), ("op", "+")),
        ):
            with self.assertRaises(PlanFault, msg=rows):
                run_rows(rows, ())

    def test_unknown_rows(self):
        for row in (("xor",), ("exists",), ("int", 1), ("case",), ("op", "?"), ("op", "and"), ("cmp", "=="),
            ("cmp", "like"), ("null",)):
            with self.assertRaises(PlanFault, msg=row):
                run_rows((("push", 1), ("push", 1), row), ())
            with self.assertRaises(PlanFault, msg=row):
                carried(row, (1, 1))
        for row in (("push", 1), ("field", 0, 0), ("jump", 1), ("unless", 1)):
            with self.assertRaises(PlanFault, msg=row):
                carried(row, (1,))
        for row, values in ((("op", "+"), (1,)), (("neg",), ()), (("not",), (True, True)), (("in", 1, False), (1,)),
            (("between", False), (1, 2, 3, 4))):
            with self.assertRaises(PlanFault, msg=row):
                carried(row, values)


if __name__ == "__main__":
    unittest.main()
