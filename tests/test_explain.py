"""Points 8 and 21: physical plans as lines, and bound expressions as text."""

import unittest

from tablestack.access import Bounds
from tablestack.errors import PlanFault
from tablestack.explain import bound_text, explain_lines, operand_text, operation_line
from tests.trees import FALSE, NULL, TRUE, UNIT, both, cmp, equal, field, num, text, up

T = ("scan", "t", 2)
SUM = ("op", "+", field(0), num(1))


class ExpressionTest(unittest.TestCase):
    def test_texts(self):
        for tree, wanted in (
            (NULL, "null"), (num(5), "5"), (num(-5), "-5"), (text("it's"), "'it''s'"), (text(""), "''"), (TRUE, "true"),
            (FALSE, "false"),
            (("truth", None), "null"), (field(0), "1"), (field(11), "12"), (field(2, 1), "^3"), (field(0, 3), "^^^1"),
            (SUM, "1 + 1"), (("op", "||", field(0), text("x")), "1 || 'x'"),
            (("op", "mod", SUM, SUM), "(1 + 1) mod (1 + 1)"),
            (("neg", field(0)), "-1"), (("neg", SUM), "-(1 + 1)"), (("neg", ("neg", field(0))), "-(-1)"),
            (cmp("<>", field(0), num(3)), "1 <> 3"), (cmp("<=", SUM, field(1)), "(1 + 1) <= 2"),
            (both(equal(field(0), num(1)), TRUE), "(1 = 1) and true"),
            (("or", TRUE, both(TRUE, FALSE)), "true or (true and false)"),
            (("not", TRUE), "not true"), (("not", equal(field(0), num(1))), "not (1 = 1)"),
            (("not", ("not", FALSE)), "not (not false)"),
            (("isnull", field(0), False), "1 is null"), (("isnull", SUM, True), "(1 + 1) is not null"),
            (("in", field(0), (num(1), SUM), False), "in (..)"), (("in", field(0), (num(1),), True), "in (..)"),
            (("inquery", field(0), T, False), "inquery (..)"), (("exists", T), "exists (..)"),
            (("scalar", T), "scalar (..)"),
            (("between", field(0), num(1), num(2), False), "between (..)"),
            (("like", field(0), text("x"), True), "like (..)"),
            (("case", ((TRUE, num(1)),), NULL), "case (..)"),
            (("op", "+", ("scalar", T), ("case", (), NULL)), "scalar (..) + case (..)"),
            (both(("exists", T), ("isnull", field(0), False)), "exists (..) and (1 is null)"),
        ):
            self.assertEqual(bound_text(tree), wanted, tree)

    def test_operands(self):
        for tree, wanted in (
            (num(5), "5"), (num(-5), "-5"), (NULL, "null"), (field(1), "2"), (field(1, 1), "^2"), (TRUE, "true"),
            (text("a"), "'a'"),
            (SUM, "(1 + 1)"), (("neg", field(0)), "(-1)"), (("not", TRUE), "(not true)"),
            (equal(field(0), NULL), "(1 = null)"),
            (both(TRUE, TRUE), "(true and true)"), (("isnull", field(0), False), "(1 is null)"),
        ):
            self.assertEqual(operand_text(tree), wanted, tree)


class PlanTest(unittest.TestCase):
    def test_lines_of_operations(self):
        test = equal(field(0), field(2))
        pairs = ((field(0), field(0)),)
        for plan, wanted in (
            (UNIT, "unit"), (T, "scan t"), (("filter", both(test, TRUE), T), "filter (1 = 3) and true"),
            (("project", (field(1), SUM), T), "project 2, 1 + 1"),
            (("nested", False, None, T, T, 2), "nested join"), (("nested", True, test, T, T, 2), "left nested join"),
            (("hash", True, pairs, None, T, T, 2), "left hash join"),
            (("hash", False, pairs, None, T, T, 2), "hash join"),
            (("merge", False, pairs, test, T, T, 2), "merge join"),
            (("merge", True, pairs, test, T, T, 2), "left merge join"),
            (("group", (), (("count", None, False),), T), "group by 0, 1 calls"),
            (("group", (field(0), SUM), (("sum", SUM, True), ("min", SUM, False), ("max", SUM, False)), T),
                "group by 2, 3 calls"),
            (("group", (field(0),), (), T), "group by 1, 0 calls"), (("distinct", T), "distinct"),
            (("union", True, T, T), "union all"), (("union", False, T, T), "union"),
            (("except", True, T, T), "except all"),
            (("except", False, T, T), "except"), (("intersect", True, T, T), "intersect all"),
            (("intersect", False, T, T), "intersect"),
            (("sort", up(0, 1), T), "sort by 1, 2"), (("sort", ((field(1), True), (SUM, False), (SUM, True)), T),
                "sort by 2 desc, 1 + 1, 1 + 1 desc"),
            (("limit", 3, 0, T), "limit 3 offset 0"), (("limit", 0, 5, T), "limit 0 offset 5"),
            (("limit", None, 7, T), "limit null offset 7"),
        ):
            self.assertEqual(operation_line(plan), wanted, plan)

    def test_lines_of_ranges(self):
        for index, bounds, wanted in (
            (None, Bounds((num(5),), None, None), "range t by primary key = 5"),
            ("t.0", Bounds((text("x"),), None, None), "range t by t.0 = 'x'"),
            ("i", Bounds((), (">", num(1)), None), "range t by i > 1"),
            ("i", Bounds((), None, ("<=", field(0, 1))), "range t by i <= ^1"),
            ("i", Bounds((), (">=", num(1)), ("<", num(5))), "range t by i >= 1 < 5"),
            (None, Bounds((num(1), NULL), ("<", num(1)), None), "range t by primary key = 1 = null < 1"),
            (None, Bounds((SUM,), None, None), "range t by primary key = (1 + 1)"),
        ):
            self.assertEqual(operation_line(("range", "t", (index, bounds), TRUE)), wanted)

    def test_lines_of_plans(self):
        way = ("range", "u", ("i", Bounds((num(1),), None, None)), TRUE)
        plan = ("sort", up(0), ("project", (field(0),), ("hash", True, (), None, ("filter", TRUE, T), ("union", True,
            way, UNIT), 1)))
        lines = ["sort by 1", "  project 1", "    left hash join", "      filter true", "        scan t",
            "      union all", "        range u by i = 1", "        unit"]
        self.assertEqual(explain_lines(plan), lines)
        self.assertEqual(explain_lines(plan, 2), ["    " + line for line in lines])
        self.assertEqual(explain_lines(("nested", False, None, T, ("merge", False, (), None, T, T, 2), 4)),
                         ["nested join", "  scan t", "  merge join", "    scan t", "    scan t"])
        self.assertEqual(explain_lines(UNIT, 1), ["  unit"])

    def test_unknown_plans(self):
        self.assertRaises(PlanFault, explain_lines, ("walk", T))
        self.assertRaises(PlanFault, explain_lines, ("distinct", ("walk", T)))


if __name__ == "__main__":
    unittest.main()
