"""Point 9: the five rules, what each makes of a plan and what it leaves, and all of them in order."""

import itertools
import unittest

from tablestack.errors import PlanFault
from tablestack.evaluate import Evaluator
from tablestack.plans import bound_parts
from tablestack.rewrite import (
    RULES, bound_conjuncts, folded, is_constant, is_distinct, literal, merge, rewrite, rewrite_once,
)
from tablestack.values import row_rank
from tests.drawn_plans import drawn_source
from tests.trees import FALSE, FAULTY, NULL, TRUE, UNIT, both, cmp, equal, field, fields, num, text, up

HIGHEST = 9223372036854775807
T, U, E = ("scan", "t", 3), ("scan", "u", 2), ("scan", "e", 2)
F0, F1, F2, F3, F4 = fields(5)
A, B, C = cmp("<", F0, num(5)), cmp(">", F1, num(1)), ("like", F2, text("x*"), False)
COUNT = ("count", None, False)


def bag(plan):
    return sorted(Evaluator(drawn_source()).plan_rows(plan), key=row_rank)


class RuleTest(unittest.TestCase):
    rule = None

    def check(self, cases):
        """Check what a rule makes of plans, which is left as it is by the rule then, and has the same rows."""
        for plan, wanted in cases:
            self.assertEqual(rewrite_once(self.rule, plan), wanted, plan)
            self.assertEqual(rewrite_once(self.rule, wanted), wanted)
            self.assertEqual(bag(plan), bag(wanted), plan)

    def leave(self, plans):
        self.check([(plan, plan) for plan in plans])

    def refuse(self):
        for plan in (("walk", T), ("filter", A, ("walk",)), ("range", "t", (None, None), A)):
            with self.assertRaises(PlanFault):
                rewrite_once(self.rule, plan)


class PartsTest(unittest.TestCase):
    def test_conjuncts(self):
        self.assertEqual(bound_conjuncts(A), (A,))
        self.assertEqual(bound_conjuncts(("and", ("and", A, B), ("and", C, ("or", A, B)))), (A, B, C, ("or", A, B)))
        self.assertEqual(bound_conjuncts(("not", ("and", A, B))), (("not", ("and", A, B)),))
        self.assertEqual(bound_conjuncts(TRUE), (TRUE,))

    def test_is_constant(self):
        plan = ("project", (num(1),), UNIT)
        for tree in (NULL, num(1), text("a"), TRUE, ("op", "+", num(1), NULL), ("case", ((TRUE, num(1)),), NULL),
            FAULTY):
            self.assertTrue(is_constant(tree), tree)
        for tree in (F0, field(0, 2), ("op", "+", num(1), F0), ("scalar", plan), ("exists", plan),
            ("inquery", num(1), plan, False),
                     ("in", num(1), (num(2), field(3, 1)), False), ("case", ((TRUE, num(1)),), F0),
                     ("neg", ("scalar", plan))):
            self.assertFalse(is_constant(tree), tree)
        self.assertRaises(PlanFault, is_constant, ("col", None, "a"))

    def test_literal(self):
        for value, tree in ((None, NULL), (True, TRUE), (False, FALSE), (0, num(0)), (1, num(1)), (-5, num(-5)),
            ("", text("")), ("a", text("a"))):
            self.assertEqual(literal(value), tree)
            self.assertIs(type(literal(value)[-1]), type(tree[-1]))


class ConstantsTest(RuleTest):
    rule = "constants"

    def test_constant_parts_are_reckoned(self):
        for tree, wanted in (
            (("op", "+", num(1), ("op", "*", num(2), num(3))), num(7)), (("op", "/", num(1), num(0)), NULL),
            (("neg", NULL), NULL),
            (("op", "+", num(HIGHEST), num(1)), NULL), (("op", "||", text("a"), text("b")), text("ab")),
            (equal(num(1), num(1)), TRUE),
            (equal(num(1), NULL), NULL), (("not", equal(num(1), num(1))), FALSE), (("isnull", NULL, False), TRUE),
            (("in", num(1), (num(2), NULL), True), NULL), (("between", num(2), num(1), num(3), False), TRUE),
            (("like", text("ab"), text("a*"), True), FALSE),
            (("case", ((equal(num(1), num(1)), num(5)),), num(6)), num(5)),
            (("op", "+", F0, ("op", "+", num(1), num(2))), ("op", "+", F0, num(3))),
            (equal(F0, ("neg", num(1))), equal(F0, num(-1))),
            (("case", ((equal(F0, num(1)), ("neg", num(5))),), ("op", "-", num(1), num(1))),
             ("case", ((equal(F0, num(1)), num(-5)),), num(0))),
            (("in", F0, (("op", "+", num(1), num(1)), F1), False), ("in", F0, (num(2), F1), False)),
            (field(0, 1), field(0, 1)),
            (("inquery", ("neg", num(1)), U, False), ("inquery", num(-1), U, False)),
        ):
            self.assertEqual(folded(tree), wanted)
            self.assertEqual(folded(wanted), wanted)

    def test_known_sides(self):
        for tree, wanted in (
            (("and", TRUE, A), A), (("and", A, TRUE), A), (("and", FALSE, A), FALSE), (("and", A, FALSE), FALSE),
            (("or", TRUE, A), TRUE), (("or", A, TRUE), TRUE), (("or", FALSE, A), A), (("or", A, FALSE), A),
            (("and", NULL, A), ("and", NULL, A)), (("or", A, NULL), ("or", A, NULL)), (("and", A, B), ("and", A, B)),
            (("and", equal(num(1), num(1)), ("or", A, equal(num(1), num(2)))), A), (("and", NULL, FALSE), FALSE),
            (("or", NULL, NULL), NULL),
            (("not", ("and", A, equal(num(1), num(2)))), TRUE), (("and", ("exists", U), FALSE), FALSE),
            (("or", ("exists", U), FALSE), ("exists", U)),
        ):
            self.assertEqual(folded(tree), wanted)

    def test_what_would_fault_is_left_to_the_rows(self):
        minus = ("neg", text("a"))
        for tree, wanted in (
            (FAULTY, FAULTY), (minus, minus), (("op", "+", ("op", "+", num(1), num(2)), minus),
             ("op", "+", num(3), minus)),
            (("and", FALSE, FAULTY), FALSE), (("and", FAULTY, FALSE), FALSE), (("or", FAULTY, TRUE), TRUE),
            (("and", TRUE, FAULTY), FAULTY),
            (("and", A, FAULTY), ("and", A, FAULTY)), (("case", ((TRUE, num(1)), (FAULTY, num(2))), minus), num(1)),
            (("case", ((A, minus),), num(2)), ("case", ((A, minus),), num(2))),
        ):
            self.assertEqual(folded(tree), wanted)
        self.leave((("filter", FAULTY, E), ("project", (minus,), E), ("join", False, FAULTY, E, U),
                ("sort", ((minus, False),), E)))
        self.assertRaises(PlanFault, folded, ("col", None, "a"))

    def test_plans(self):
        two = ("op", "+", num(1), num(1))
        self.check((
            (("filter", equal(num(1), num(1)), T), T), (("filter", ("and", TRUE, A), T), ("filter", A, T)),
            (("filter", FALSE, T), ("filter", FALSE, T)),
            (("filter", equal(NULL, num(1)), T), ("filter", NULL, T)),
            (("join", False, equal(num(1), num(1)), T, U), ("join", False, None, T, U)),
            (("join", True, ("or", A, TRUE), T, U), ("join", True, None, T, U)),
            (("join", True, equal(num(1), num(2)), T, U), ("join", True, FALSE, T, U)),
            (("project", (two, F0), T), ("project", (num(2), F0), T)),
            (("sort", ((two, True),), T), ("sort", ((num(2), True),), T)),
            (("group", (two,), (("sum", two, True), COUNT), T),
             ("group", (num(2),), (("sum", num(2), True), COUNT), T)),
            (("limit", 2, 0, ("union", True, ("filter", TRUE, U), ("project", (two, NULL), E))),
             ("limit", 2, 0, ("union", True, U, ("project", (num(2), NULL), E)))),
            (("distinct", ("filter", TRUE, ("filter", TRUE, U))), ("distinct", U)),
        ))
        self.leave((UNIT, T, ("join", False, None, T, U), ("limit", None, 0, T),
                ("filter", ("exists", ("filter", TRUE, U)), T)))
        self.refuse()


class MergeTest(RuleTest):
    rule = "merge"

    def test_filters(self):
        self.check((
            (("filter", A, ("filter", B, T)), ("filter", both(B, A), T)),
            (("filter", A, ("filter", B, ("filter", C, T))), ("filter", both(C, B, A), T)),
            (("filter", both(A, B), ("filter", C, T)), ("filter", both(C, A, B), T)),
            (("limit", 3, 0, ("filter", A, ("filter", B, T))), ("limit", 3, 0, ("filter", both(B, A), T))),
        ))

    def test_filters_on_joins(self):
        self.check((
            (("filter", A, ("join", False, B, T, U)), ("join", False, both(B, A), T, U)),
            (("filter", A, ("join", False, None, T, U)), ("join", False, A, T, U)),
            (("filter", A, ("filter", B, ("join", False, C, T, U))), ("join", False, both(C, B, A), T, U)),
            (("join", True, A, ("filter", A, ("filter", B, T)), ("filter", A, ("join", False, None, U, U))),
             ("join", True, A, ("filter", both(B, A), T), ("join", False, A, U, U))),
        ))

    def test_what_is_left(self):
        self.leave((
            UNIT, T, ("filter", A, T), ("filter", A, ("join", True, B, T, U)),
            ("filter", A, ("join", True, None, T, U)), ("filter", A, ("distinct", T)),
            ("filter", A, ("sort", up(0), ("filter", B, T))), ("filter", A, ("project", (F0,), ("filter", B, T))),
            ("filter", A, ("limit", 1, 0, ("filter", B, T))),
            ("filter", A, ("group", (F0,), (COUNT,), ("filter", B, T))),
        ))
        self.assertEqual(merge(("filter", A, ("filter", B, T))), ("filter", both(B, A), T))
        self.refuse()

    def test_many_conditions_are_not_nested_deep(self):
        plan = T
        for _ in range(30):
            plan = ("filter", both(*[("isnull", F0, True)] * 30), plan)
        found = merge(plan)
        self.assertEqual((found[0], found[2], bound_conjuncts(found[1])), ("filter", T, (("isnull", F0, True),) * 900))
        parts, deep = [found[1]], 0
        while parts:
            parts, deep = [inner for part in parts for inner in bound_parts(part)], deep + 1
        self.assertLess(deep, 100)
        self.assertEqual(bag(found), bag(T))


class PushTest(RuleTest):
    rule = "push"

    def test_conditions_of_joins(self):
        on_u = cmp(">", F3, num(1))
        self.check((
            (("join", False, A, T, U), ("join", False, None, ("filter", A, T), U)),
            (("join", False, on_u, T, U), ("join", False, None, T, ("filter", cmp(">", F0, num(1)), U))),
            (("join", False, both(equal(F0, F3), A, on_u, B), T, U),
             ("join", False, equal(F0, F3), ("filter", both(A, B), T), ("filter", cmp(">", F0, num(1)), U))),
            (("join", True, both(A, on_u, equal(F1, F3)), T, U),
             ("join", True, both(A, equal(F1, F3)), T, ("filter", cmp(">", F0, num(1)), U))),
            (("join", True, on_u, T, U), ("join", True, None, T, ("filter", cmp(">", F0, num(1)), U))),
            (("join", False, A, ("join", False, B, ("sort", up(0), T), U), U),
             ("join", False, None, ("join", False, None, ("sort", up(0), ("filter", A, ("filter", B, T))), U), U)),
            (("join", False, ("exists", ("filter", equal(F0, field(3, 1)), U)), T, U),
             ("join", False, None, T, ("filter", ("exists", ("filter", equal(F0, field(0, 1)), U)), U))),
        ))

    def test_filters_on_joins(self):
        on_u = cmp(">", F3, num(1))
        self.check((
            (("filter", both(A, on_u, equal(F0, F3)), ("join", False, None, T, U)),
             ("filter", equal(F0, F3), ("join", False, None, ("filter", A, T), ("filter", cmp(">", F0, num(1)), U)))),
            (("filter", both(A, on_u), ("join", True, equal(F0, F3), T, U)),
             ("filter", on_u, ("join", True, equal(F0, F3), ("filter", A, T), U))),
            (("filter", A, ("join", True, None, T, U)), ("join", True, None, ("filter", A, T), U)),
        ))

    def test_filters_on_sorts_distincts_and_combinations(self):
        self.check((
            (("filter", A, ("sort", up(0), T)), ("sort", up(0), ("filter", A, T))),
            (("filter", both(A, B), ("distinct", T)), ("distinct", ("filter", both(A, B), T))),
            (("filter", A, ("union", True, T, T)), ("union", True, ("filter", A, T), ("filter", A, T))),
            (("filter", A, ("intersect", False, U, U)), ("intersect", False, ("filter", A, U), ("filter", A, U))),
            (("filter", A, ("except", True, U, ("limit", 1, 0, U))),
             ("except", True, ("filter", A, U), ("limit", 1, 0, U))),
            (("filter", A, ("except", False, U, U)), ("except", False, ("filter", A, U), U)),
            (("filter", A, ("distinct", ("sort", up(1), ("union", False, T, ("distinct", T))))),
             ("distinct", ("sort", up(1), ("union", False, ("filter", A, T), ("distinct", ("filter", A, T)))))),
        ))

    def test_filters_on_projections(self):
        plan = ("project", (F2, F0, ("neg", F0), field(1)), T)
        below = cmp("<", F1, F3)
        self.check((
            (("filter", below, plan), (*plan[:2], ("filter", cmp("<", F0, F1), T))),
            (("filter", both(below, equal(F2, num(-2)), ("like", F0, text("*"), False)), plan),
             ("filter", equal(F2, num(-2)), (*plan[:2],
               ("filter", both(cmp("<", F0, F1), ("like", F2, text("*"), False)), T)))),
            (("filter", ("exists", ("filter", equal(F0, field(1, 1)), T)), plan),
             (*plan[:2], ("filter", ("exists", ("filter", equal(F0, field(0, 1)), T)), T))),
        ))
        self.leave((("filter", equal(F2, num(1)), plan), ("filter", equal(F1, F2), plan)))

    def test_what_is_left(self):
        self.leave((
            UNIT, T, ("filter", A, T), ("filter", A, ("filter", B, T)), ("join", False, None, T, U),
            ("join", False, equal(F0, F3), T, U),
            ("join", True, A, T, U), ("join", True, equal(F0, F3), T, U),
            ("filter", cmp(">", F3, num(1)), ("join", True, None, T, U)),
            ("filter", A, ("limit", 3, 0, T)), ("filter", A, ("limit", None, 1, T)),
            ("filter", A, ("group", (F0,), (), T)),
            ("join", False, both(equal(F0, F3), ("and", equal(F1, F3), equal(F2, F4))), T, U),
            ("filter", FALSE, ("join", False, equal(F0, F3), T, U)),
            ("join", False, NULL, T, U),
        ))
        self.refuse()

    def test_rows_outside(self):
        outer = equal(field(0, 1), num(1))
        self.assertEqual(rewrite_once("push", ("join", False, both(outer, equal(F0, field(0, 1))), T, U)),
                         ("join", False, outer, ("filter", equal(F0, field(0, 1)), T), U))
        plan = ("filter", equal(F0, field(1, 1)), ("project", (field(1, 1), F0), T))
        self.assertEqual(rewrite_once("push", plan), plan)


class PruneTest(RuleTest):
    rule = "prune"

    def test_projections(self):
        self.check((
            (("project", (("op", "+", F0, F1), F1), ("project", (F1, ("neg", F0), F2), T)),
             ("project", (("op", "+", F1, ("neg", F0)), ("neg", F0)), T)),
            (("project", (F1,), ("project", (F1, F0), ("project", (F2, F1), T))), ("project", (F2,), T)),
            (("project", (num(1),), ("project", (F1, F0), T)), ("project", (num(1),), T)),
            (("project", (), ("project", (F1,), T)), ("project", (), T)),
            (("project", (F0, F1, F2), T), T), (("project", (), UNIT), UNIT),
            (("project", (F1, F0), ("project", (F1, F0), U)), U),
            (("project", (F0, F1, F2, F3, F4), ("join", True, None, T, U)), ("join", True, None, T, U)),
            (("distinct", ("project", (F0, F1), U)), ("distinct", U)),
            (("project", (F0,), ("group", (F0,), (), U)), ("group", (F0,), (), U)),
            (("project", (("case", ((cmp("<", F0, num(3)), F1),), F0),), ("project", (F1, ("neg", F0)), T)),
             ("project", (("case", ((cmp("<", F1, num(3)), ("neg", F0)),), F1),), T)),
        ))

    def test_what_is_left(self):
        self.leave((
            UNIT, T, ("project", (F1, F0), U), ("project", (F0,), U), ("project", (F0, F1, F1), U),
            ("project", (F0, ("neg", F0)), ("sort", up(0), U)),
            ("project", (num(1),), ("distinct", ("project", (F1,), U))),
            ("project", (num(1),), ("filter", A, ("project", (F1,), T))),
            ("project", (("scalar", ("project", (field(0, 1),), UNIT)),), ("project", (F0, num(1)), U)),
            ("project", (F0,), ("project", (("scalar", ("project", (num(1),), UNIT)), F1), U)),
            ("project", (F1,), ("project", (("exists", E), F1), U)),
            ("project", (("inquery", F0, ("project", (num(1),), UNIT), False),), ("project", (F1,), T)),
        ))
        self.refuse()

    def test_rows_outside(self):
        for plan in (("project", (field(0, 1),), ("project", (F0, F1), T)),
            ("project", (F0,), ("project", (F1, field(0, 2)), T))):
            self.assertEqual(rewrite_once("prune", plan), plan)

    def test_many_parts(self):
        tree = F0
        for _ in range(1, 10):
            tree = ("op", "+", tree, F1)
        self.check_joined((F0,) * 1000, (("op", "+", F0, F1), F1), True)
        self.check_joined((F0,) * 1000 + (F1,), (("op", "+", F0, F1), F1), False)
        for many, fine in ((2998, True), (2999, False)):
            self.check_joined((("in", F0, (num(1),) * many, False),), (F1, F0), fine)
            self.check_joined((("in", F1, (num(1),) * (many - 19), False),), (F1, ("neg", tree)), fine)

    def check_joined(self, upper, lower, fine):
        plan = ("project", upper, ("project", lower, U))
        found = rewrite_once("prune", plan)
        self.assertEqual(found[2] == U, fine)
        if not fine:
            self.assertEqual(found, plan)

    def test_doubled_again_and_again(self):
        plan = U
        for _ in range(14):
            plan = ("project", (("op", "-", F0, F0), F1), plan)
        found = rewrite_once("prune", plan)
        self.assertEqual(found[2][0], "project")
        self.assertEqual(bag(found), bag(plan))


class DistinctTest(RuleTest):
    rule = "distinct"
    GROUP = ("group", (F2, F0), (COUNT,), T)
    ONE = ("limit", 1, 0, U)

    def test_rows_that_cannot_be_equal(self):
        some = ("distinct", U)
        for plan in (
            UNIT, some, self.GROUP, ("group", (), (COUNT,), T), ("filter", A, some), ("sort", up(0), some),
            ("limit", 3, 0, some), self.ONE,
            ("limit", 0, 0, U), ("project", (F1, F0), some), ("project", (F1, num(1), F0, F0), self.GROUP),
            ("project", (num(1),), UNIT),
            ("project", (F1,), self.ONE), ("join", False, A, some, some), ("join", True, None, some, self.GROUP),
            ("join", False, None, UNIT, some),
            ("union", False, U, U), ("except", False, U, U), ("intersect", False, U, U), ("except", True, some, U),
            ("intersect", True, U, some),
        ):
            self.assertTrue(is_distinct(plan), plan)
            rows = Evaluator(drawn_source()).plan_rows(plan)
            self.assertEqual(len(rows), len(set(rows)))
            self.check(((("distinct", plan), plan if plan[0] != "sort" else plan[2]),))

    def test_rows_that_can_be_equal(self):
        some = ("distinct", U)
        for plan in (
            T, ("filter", A, T), ("project", (F0,), some), ("project", (F0, ("neg", F1)), self.GROUP),
            ("join", False, None, some, U), ("join", True, None, U, some),
            ("union", True, some, some), ("except", True, U, some), ("intersect", True, U, U), ("limit", 2, 0, U),
            ("limit", None, 0, U), ("sort", up(0, 1), U),
            ("project", (field(0, 1),), some),
        ):
            self.assertFalse(is_distinct(plan), plan)
        self.leave((("distinct", T), ("distinct", ("project", (F0,), some)), ("distinct", ("union", True, some, some))))
        self.assertRaises(PlanFault, is_distinct, ("filter", A, ("walk",)))

    def test_sorts_whose_order_is_lost(self):
        sort = ("sort", ((F1, True),), T)
        self.check((
            (("distinct", sort), ("distinct", T)), (("group", (F0,), (COUNT,), sort), ("group", (F0,), (COUNT,), T)),
            (("sort", up(0), sort), ("sort", up(0), T)), (("sort", up(0), ("sort", up(1), ("sort", up(2), T))),
             ("sort", up(0), T)),
            (("project", (F0,), ("distinct", sort)), ("project", (F0,), ("distinct", T))),
        ))
        self.leave((
            sort, ("filter", A, sort), ("project", (F0,), sort), ("limit", 2, 0, sort), ("union", False, sort, sort),
            ("distinct", ("limit", 2, 0, sort)),
            ("sort", up(0), ("limit", 2, 0, sort)), ("group", (), (COUNT,), ("limit", 2, 0, sort)),
        ))
        self.refuse()

    def test_sorts_that_say_what_a_limit_cuts(self):
        sort = ("sort", ((F1, True),), T)
        whole = ("sort", ((F1, True), (F0, False), (F2, True)), sort)
        self.leave((
            ("limit", 3, 0, ("distinct", sort)), ("limit", None, 2, ("distinct", sort)),
            ("limit", 1, 0, ("group", (F2,), (COUNT,), sort)),
            ("limit", 3, 0, ("sort", up(2), sort)), ("limit", 3, 0,
             ("project", (F0,), ("filter", A, ("distinct", sort)))),
            ("project", (F0,), ("limit", 3, 0, ("distinct", sort))),
            ("limit", 3, 0, ("except", False, ("distinct", sort), T)),
            ("limit", 9, 0, ("join", False, None, ("distinct", sort), ("distinct", ("sort", up(0), U)))),
        ))
        self.check((
            (("limit", 3, 0, whole), ("limit", 3, 0, (*whole[:2], T))),
            (("limit", None, 0, ("distinct", sort)), ("limit", None, 0, ("distinct", T))),
            (("limit", 0, 1, ("distinct", sort)), ("limit", 0, 1, ("distinct", T))),
            (("limit", -1, 0, ("distinct", sort)), ("limit", -1, 0, ("distinct", T))),
            (("limit", 3, 0, (*whole[:2], ("distinct", sort))), ("limit", 3, 0, (*whole[:2], ("distinct", T)))),
            (("limit", 3, 0, ("except", True, T, ("distinct", sort))),
             ("limit", 3, 0, ("except", True, T, ("distinct", T)))),
            (("limit", 2, 0, ("distinct", ("limit", 0, 0, ("distinct", sort)))),
             ("limit", 2, 0, ("limit", 0, 0, ("distinct", T)))),
        ))


class RewriteTest(unittest.TestCase):
    PLAN = ("sort", up(0), ("filter", both(A, equal(F0, F3), TRUE),
            ("project", fields(5), ("join", False, None, T, ("distinct", ("distinct", U))))))

    def test_all_rules(self):
        wanted = ("sort", up(0), ("join", False, equal(F0, F3), ("filter", A, T), ("distinct", U)))
        self.assertEqual(rewrite(self.PLAN), wanted)
        self.assertEqual(rewrite(wanted), wanted)
        self.assertEqual(bag(wanted), bag(self.PLAN))

    def test_rules_in_any_order(self):
        self.assertEqual(RULES, ("constants", "merge", "push", "prune", "distinct"))
        for many in range(len(RULES) + 1):
            for rules in itertools.permutations(RULES, many):
                found = rewrite(self.PLAN, rules)
                self.assertEqual(bag(found), bag(self.PLAN))
                self.assertEqual(rewrite(found, rules), found, rules)
        self.assertEqual(rewrite(self.PLAN, ()), self.PLAN)
        self.assertEqual(rewrite(self.PLAN, ("constants",)),
            (*self.PLAN[:2], ("filter", both(A, equal(F0, F3)), self.PLAN[2][2])))

    def test_until_nothing_changes(self):
        plan = T
        for _ in range(40):
            plan = ("filter", A, ("sort", up(0), ("distinct", ("project", (F0, F1, F2), ("filter", TRUE, plan)))))
        found = rewrite(plan)
        self.assertEqual(rewrite(found), found)
        self.assertEqual(found, ("sort", up(0), ("distinct", ("filter", both(*[A] * 40), T))))
        self.assertEqual(bag(found), bag(plan))


if __name__ == "__main__":
    unittest.main()
