"""Point 10: joins in the order of the least expected cost, each condition as early as its columns are there."""

import itertools
import unittest

from tablestack.errors import PlanFault
from tablestack.evaluate import Evaluator
from tablestack.order import Joiner, leaves_and_tests, reorder, subsets
from tablestack.rewrite import rewrite
from tablestack.values import row_rank
from tests.drawn_plans import drawn_source
from tests.trees import TRUE, UNIT, both, cmp, equal, field, fields, num, up

F = fields(12)
COUNTS = {"a": 1000, "b": 100, "c": 10, "d": 1000, "e": 5, "f": 50, "g": 7}
A, B, C, D, E, G, H = [("scan", name, 2) for name in "abcdefg"]
T, U = ("scan", "t", 3), ("scan", "u", 2)


def join(one, other, test=None):
    return ("join", False, test, one, other)


def moved(*places):
    return tuple(field(place) for place in places)


class PartsTest(unittest.TestCase):
    def test_leaves_and_tests(self):
        left = ("join", True, equal(F[0], F[2]), A, B)
        for plan, shift, wanted in (
            (A, 0, ((A,), ())), (left, 3, ((left,), ())), (("filter", TRUE, join(A, B)), 0,
             ((("filter", TRUE, join(A, B)),), ())),
            (join(A, B), 0, ((A, B), ())), (join(A, B, equal(F[0], F[2])), 0, ((A, B), (equal(F[0], F[2]),))),
            (join(A, B, both(equal(F[0], F[2]), TRUE)), 2, ((A, B), (equal(F[2], F[4]), TRUE))),
            (join(join(A, B, equal(F[0], F[2])), C, equal(F[1], F[4])), 0,
             ((A, B, C), (equal(F[0], F[2]), equal(F[1], F[4])))),
            (join(A, join(B, C, equal(F[0], F[2])), equal(F[1], F[4])), 0,
             ((A, B, C), (equal(F[2], F[4]), equal(F[1], F[4])))),
            (join(join(A, left), ("distinct", join(A, B)), cmp("<", F[7], field(0, 1))), 1,
             ((A, left, ("distinct", join(A, B))), (cmp("<", F[8], field(0, 1)),))),
        ):
            self.assertEqual(leaves_and_tests(plan, shift), wanted, plan)
        self.assertRaises(PlanFault, leaves_and_tests, join(("walk",), A), 0)

    def test_subsets(self):
        for numbers, size, wanted in (
            ((0, 1, 2), 2, [(0, 1), (0, 2), (1, 2)]), ((0, 1, 2), 0, [()]), ((0, 1, 2), 3, [(0, 1, 2)]),
            ((0, 1, 2), 4, []), ((), 0, [()]), ((), 1, []),
            ([3, 5, 9], 1, [(3,), (5,), (9,)]), ((0, 1), -1, []),
        ):
            self.assertEqual(subsets(numbers, size), wanted)
        self.assertEqual(subsets(range(6), 3), list(itertools.combinations(range(6), 3)))

    def test_joined_plans(self):
        joiner = Joiner([A, B, C], [equal(F[0], F[2]), equal(F[3], F[5]), cmp("<", F[4], num(1)), TRUE], COUNTS)
        for order, wanted in (
            ((1,), B), ((0, 1), join(A, B, both(equal(F[0], F[2]), TRUE))),
            ((1, 0), join(B, A, both(equal(F[2], F[0]), TRUE))),
            ((0, 2), join(A, C, both(cmp("<", F[2], num(1)), TRUE))),
            ((2, 0), join(C, A, both(cmp("<", F[0], num(1)), TRUE))),
            ((0, 1, 2), join(join(A, B, both(equal(F[0], F[2]), TRUE)), C,
              both(equal(F[3], F[5]), cmp("<", F[4], num(1))))),
            ((2, 0, 1), join(join(C, A, both(cmp("<", F[0], num(1)), TRUE)), B,
              both(equal(F[2], F[4]), equal(F[5], F[1])))),
            ((2, 1, 0), join(join(C, B, both(equal(F[3], F[1]), cmp("<", F[0], num(1)), TRUE)), A, equal(F[4], F[2]))),
        ):
            self.assertEqual(joiner.joined_plan(order), wanted, order)

    def test_costs(self):
        joiner = Joiner([A, B], [], COUNTS)
        for plan, cost in (
            (A, 0), (join(B, C), 1000), (join(B, C, equal(F[0], F[2])), 101),
            (join(join(B, C, equal(F[0], F[2])), E), 101 + 505),
            (("sort", (), join(B, ("join", True, None, C, E))), 50 + 5000),
            (join(B, ("distinct", join(C, E))), 50 + 5000),
        ):
            self.assertEqual(joiner.cost(plan), cost, plan)

    def test_best_orders(self):
        for plans, tests, order in (
            ([A], [], (0,)), ([A, B], [], (0, 1)), ([B, A], [equal(F[0], F[2])], (0, 1)), ([A, D, C], [], (0, 2, 1)),
            ([A, B, C], [], (1, 2, 0)),
            ([A, B, C], [equal(F[0], F[2])], (1, 2, 0)), ([A, D, B], [equal(F[0], F[4])], (0, 2, 1)),
            ([A, A, A], [], (0, 1, 2)),
            ([A, D, C, E], [], (2, 3, 0, 1)), ([A, B, C, E], [equal(F[0], F[2]), equal(F[3], F[5]), equal(F[5], F[7])],
             (2, 3, 1, 0)),
            ([A, ("join", True, None, C, E), B], [], (1, 2, 0)),
        ):
            self.assertEqual(Joiner(plans, tests, COUNTS).best_order(), order, (plans, tests))

    def test_best_orders_of_three_are_the_least_of_all(self):
        tests = [equal(F[0], F[2]), equal(F[1], F[4]), equal(F[3], F[5]), cmp("<", F[0], F[5]), cmp(">", F[2], num(1))]
        for plans in itertools.product((A, C, E), repeat=3):
            for some in range(2 ** len(tests)):
                joiner = Joiner(plans, [test for place, test in enumerate(tests) if some >> place & 1], COUNTS)
                orders = sorted((joiner.cost(joiner.joined_plan(order)),
                        order) for order in itertools.permutations(range(3)))
                self.assertEqual(joiner.best_order(), orders[0][1])

    def test_best_orders_by_parts(self):
        plans = [B, C, A, E, G, D]
        tests = [equal(F[0], F[2]), equal(F[3], F[6]), cmp("<", F[4], F[9]), equal(F[5], F[11]), equal(F[8], F[1])]
        joiner = Joiner(plans, tests, COUNTS)
        best = {(number,): (number,) for number in range(6)}
        for size in range(2, 7):
            for some in itertools.combinations(range(6), size):
                orders = [(*best[tuple(one for one in some if one != last)], last) for last in some]
                best[some] = min(orders, key=lambda order: (joiner.cost(joiner.joined_plan(order)), order))
        self.assertEqual(joiner.best_order(), best[tuple(range(6))])


class ReorderTest(unittest.TestCase):
    def check(self, cases):
        for plan, wanted in cases:
            self.assertEqual(reorder(plan, COUNTS), wanted, plan)

    def test_two_and_three_sides(self):
        self.check((
            (A, A), (join(A, B), join(A, B)), (join(B, A, equal(F[0], F[2])), join(B, A, equal(F[0], F[2]))),
            (join(join(A, B), C, both(equal(F[0], F[2]), equal(F[3], F[5]))),
             ("project", moved(4, 5, 0, 1, 2, 3), join(join(B, C, equal(F[1], F[3])), A, equal(F[4], F[0])))),
            (join(A, join(D, C)), ("project", moved(0, 1, 4, 5, 2, 3), join(join(A, C), D))),
            (join(C, join(E, B, equal(F[0], F[2])), equal(F[0], F[3])),
             join(join(C, E, equal(F[0], F[3])), B, equal(F[2], F[4]))),
        ))

    def test_conditions_of_no_side_and_of_one(self):
        self.check((
            (join(join(C, E), B, both(TRUE, cmp("<", F[4], num(3)))),
             join(join(C, E, TRUE), B, cmp("<", F[4], num(3)))),
            (join(join(C, E), B, cmp("<", F[3], field(1, 1))), join(join(C, E, cmp("<", F[3], field(1, 1))), B)),
        ))

    def test_within_other_plans(self):
        three = join(join(A, B), C)
        wanted = ("project", moved(4, 5, 0, 1, 2, 3), join(join(B, C), A))
        left = ("join", True, equal(F[0], F[6]), three, B)
        self.check((
            (("sort", up(0), ("filter", TRUE, three)), ("sort", up(0), ("filter", TRUE, wanted))),
            (left, (*left[:3], wanted, B)),
            (("union", True, three, three), ("union", True, wanted, wanted)),
            (join(("distinct", three), E), join(("distinct", wanted), E)),
            (("filter", ("exists", three), A), ("filter", ("exists", three), A)),
            (join(join(A, ("join", True, TRUE, C, E)), B), ("project", moved(6, 7, 0, 1, 2, 3, 4, 5),
              join(join(("join", True, TRUE, C, E), B), A))),
        ))

    def test_left_joins_are_sides(self):
        left = ("join", True, TRUE, join(A, B), C)
        self.check(((left, left), (("join", True, None, B, join(E, C)), ("join", True, None, B, join(E, C)))))

    def test_limits_that_cut_rows(self):
        three = join(join(A, B), C)
        whole = tuple((tree, False) for tree in fields(6))
        wanted = ("project", moved(4, 5, 0, 1, 2, 3), join(join(B, C), A))
        self.check((
            (("limit", 3, 0, three), ("limit", 3, 0, three)),
            (("limit", 3, 0, ("sort", up(0), three)), ("limit", 3, 0, ("sort", up(0), three))),
            (("limit", 3, 0, ("sort", whole, three)), ("limit", 3, 0, ("sort", whole, wanted))),
            (("limit", None, 0, three), ("limit", None, 0, wanted)),
        ))

    def test_six_and_seven_sides(self):
        plans = [A, B, C, D, E, G]
        plan = plans[0]
        for number, one in enumerate(plans[1:]):
            plan = join(plan, one, equal(F[2 * number], F[2 * number + 2]))
        found = reorder(plan, COUNTS)
        leaves, tests = leaves_and_tests(plan, 0)
        joiner = Joiner(leaves, tests, COUNTS)
        self.assertEqual(found[2], joiner.joined_plan(joiner.best_order()))
        self.assertNotEqual(joiner.best_order(), tuple(range(6)))
        self.assertEqual(reorder(join(plan, H), COUNTS), join(found, H))
        self.assertEqual(reorder(join(H, plan), COUNTS), join(H, found))

    def test_rows_are_the_same(self):
        source = drawn_source()
        for counts in ({"t": 7, "u": 5, "e": 0}, {"t": 1, "u": 500}, {}):
            for tests in (both(equal(F[0], F[3]), equal(F[5], F[1])),
                both(cmp("<", F[5], F[0]), cmp("<>", F[8], num(3)), equal(F[1], F[6])), TRUE):
                plan = ("join", False, tests, join(T, U), ("join", False, equal(F[0], F[4]), T,
                        ("join", True, equal(F[0], F[3]), T, U)))
                rows = sorted(Evaluator(source).plan_rows(plan), key=row_rank)
                for found in (reorder(plan, counts), reorder(rewrite(plan), counts)):
                    self.assertEqual(sorted(Evaluator(source).plan_rows(found), key=row_rank), rows)

    def test_faults(self):
        self.assertRaises(PlanFault, reorder, join(A, ("walk",)), COUNTS)
        self.assertRaises(PlanFault, reorder, join(UNIT, A, ("agg", "sum", F[0], False)), COUNTS)


if __name__ == "__main__":
    unittest.main()
