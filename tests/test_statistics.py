"""Point 10: summaries of columns, their bounds, and the rows expected of conditions."""

import random
import unittest

from tablestack.statistics import Summary, expected_share, summarize, summarize_rows
from tablestack.values import rank, row_rank

HIGHEST = 9223372036854775807


class SummaryTest(unittest.TestCase):
    def test_bounds(self):
        for values, shown in (
            ([], (0, 0, 0, ())), ([None, None], (2, 2, 0, ())), ([5], (1, 0, 1, ((1, 5),))),
            ([5, None, 5], (3, 1, 1, ((1, 5), (1, 5)))),
            ([7, 6, 5, 4, 3, 2, 1], (7, 0, 7, row_rank(range(1, 8)))), (list(range(8)), (8, 0, 8, row_rank(range(8)))),
            (list(range(1, 10)), (9, 0, 9, row_rank((1, 2, 3, 4, 5, 6, 7, 9)))),
            (list(range(1, 17)), (16, 0, 16, row_rank(range(2, 17, 2)))),
            (list(range(1, 18)) + [None], (18, 1, 17, row_rank((2, 4, 6, 8, 10, 12, 14, 17)))),
            ([1] * 20, (20, 0, 1, row_rank([1] * 8))),
            ([1] * 10 + [2] * 5 + [3], (16, 0, 3, row_rank((1, 1, 1, 1, 1, 2, 2, 3)))),
            (["b", None, "a", "b"], (4, 1, 2, row_rank(("a", "b", "b")))),
            ([HIGHEST, -HIGHEST, "", 0], (4, 0, 4, row_rank((-HIGHEST, 0, HIGHEST, "")))),
        ):
            self.assertEqual(summarize(values).shown(), shown, values)

    def test_bounds_part_values_evenly(self):
        chance = random.Random(3)
        for many in range(60):
            values = [chance.choice((None, 1, 2, 3, 4, 5, "a", "b")) for _ in range(many)]
            known = sorted(rank(value) for value in values if value is not None)
            parts = min(8, len(known))
            found = summarize(values)
            self.assertEqual(found.bounds, tuple(known[k * len(known) // parts - 1] for k in range(1, parts + 1)))
            self.assertEqual((found.rows, found.nulls, found.different), (many, many - len(known), len(set(known))))

    def test_columns_of_rows(self):
        rows = [(1, "a", None), (2, "a", None)]
        self.assertEqual([one.shown() for one in summarize_rows(rows, 3)],
                         [(2, 0, 2, ((1, 1), (1, 2))), (2, 0, 1, ((2, "a"), (2, "a"))), (2, 2, 0, ())])
        self.assertEqual([one.shown() for one in summarize_rows([], 2)], [(0, 0, 0, ())] * 2)
        self.assertEqual(summarize_rows([()], 0), ())
        self.assertIsInstance(summarize_rows(rows, 3), tuple)

    def test_fields(self):
        summary = Summary(9, 2, 4, [(1, 5)])
        self.assertEqual((summary.rows, summary.nulls, summary.different, summary.bounds), (9, 2, 4, ((1, 5),)))

    def test_equal_rows(self):
        for values, many in (
            ([], 0), ([None], 0), ([1], 1), ([1, 1, 1], 3), ([1, 1, 2], 2), ([1, 2, 3, 3, 3], 2),
            ([1, 2, None, None, None], 1), (list(range(50)), 1), ([1, 2] * 5 + [3], 4),
        ):
            self.assertEqual(summarize(values).equal_rows(), many, values)

    def test_below_rows(self):
        summary = summarize(list(range(1, 18)) + [None] * 3)
        for value, many in (
            (None, 0), (-HIGHEST, 0), (1, 0), (2, 0), (3, 2), (4, 2), (5, 4), (9, 8), (14, 12), (15, 14), (17, 14),
            (18, 17), (HIGHEST, 17), ("", 17), ("a", 17),
        ):
            self.assertEqual(summary.below_rows(value), many, value)
        for values in ([], [None]):
            self.assertEqual(summarize(values).below_rows(5), 0)
        self.assertEqual(summarize([1] * 20).below_rows(1), 0)
        self.assertEqual(summarize([1] * 20).below_rows(2), 20)
        self.assertEqual(summarize(["a", "b", "c"]).below_rows("b"), 1)
        self.assertEqual(summarize(["a", "b", "c"]).below_rows(5), 0)

    def test_range_rows(self):
        summary = summarize(list(range(1, 17)) + [None] * 4)
        for low, high, many in (
            (None, None, 16), (None, 9, 8), (9, None, 8), (5, 9, 4), (9, 5, 0), (-5, 99, 16), (99, None, 0),
            (None, -5, 0), (5, 5, 0), (99, 200, 0), (None, "a", 16),
        ):
            self.assertEqual(summary.range_rows(low, high), many, (low, high))
        self.assertEqual(summarize([]).range_rows(None, None), 0)


class ShareTest(unittest.TestCase):
    def test_shares(self):
        summaries = summarize_rows([(number, number % 4, None, "x") for number in range(1, 17)], 4)
        for sides, many, rows in (
            ((), 16, 16), (((0, "=", 5),), 16, 1), (((1, "=", 5),), 16, 4), (((1, "=", 5),), 32, 8),
            (((3, "=", "y"),), 16, 16), (((0, "<", 9),), 16, 8),
            (((0, ">=", 9),), 16, 8), (((0, ">=", 5),), 16, 12), (((0, "<", -5),), 16, 0), (((0, ">=", -5),), 16, 16),
            (((0, "<", 99),), 16, 16), (((0, ">=", 99),), 16, 0),
            (((1, "=", 1), (0, "<", 9)), 16, 2), (((0, "=", 1), (1, "=", 1)), 16, 0),
            (((1, "=", 1), (3, "=", "x")), 100, 25), (((2, "=", 1),), 16, 0),
            (((2, ">=", 1),), 16, 0), (((0, "=", None),), 16, 0), (((1, "=", 1), (0, "<", None)), 16, 0),
            (((0, ">", None),), 16, 0), (((1, "=", 1),), 0, 0),
        ):
            self.assertEqual(expected_share(summaries, sides, many), rows, sides)

    def test_each_sign(self):
        eight = summarize_rows([(number, "x") for number in range(8)], 2)
        nulls = [summarize([0, 1, 2, 3, 4, 5, 6, 7, None, None, None, None])]
        pairs = [summarize([1, 1, 1, 1, 2, 2, 2, 2])]
        for summaries, many, value, wanted in (
            (eight, 8, 3, (3, 4, 1, 4, 5)), (eight, 8, 0, (0, 1, 1, 7, 8)), (eight, 8, 7, (7, 8, 1, 0, 1)),
            (eight, 8, -5, (0, 1, 1, 7, 8)), (eight, 8, 99, (8, 8, 1, 0, 0)), (eight, 80, 3, (30, 40, 10, 40, 50)),
            (nulls, 12, 3, (3, 4, 1, 4, 5)), (nulls, 12, -5, (0, 1, 1, 7, 8)), (nulls, 12, 99, (8, 8, 1, 0, 0)),
            (pairs, 8, 1, (0, 4, 4, 4, 8)), (pairs, 8, 2, (4, 8, 4, 0, 4)), (pairs, 8, 3, (8, 8, 4, 0, 0)),
            ([summarize([5] * 3)], 3, 5, (0, 3, 3, 0, 3)), ([summarize([5] * 3)], 3, 6, (3, 3, 3, 0, 0)),
        ):
            found = [expected_share(summaries, ((0, sign, value),), many) for sign in ("<", "<=", "=", ">", ">=")]
            self.assertEqual(tuple(found), wanted, (many, value))

    def test_several_conditions_together(self):
        summaries = summarize_rows([(number, number % 2) for number in range(8)], 2)
        for sides, rows in (
            (((0, ">", 3), (0, "<=", 5)), 3), (((0, "<=", 3), (1, "=", 1)), 2), (((0, ">", 99), (1, "=", 1)), 0),
            (((0, "<=", 99), (0, ">=", -5)), 8), (((0, ">", 3), (0, "<=", None)), 0), (((1, ">", 0), (0, "<=", 3)), 2),
            (((1, "<=", 0), (1, "<=", 0)), 2),
        ):
            self.assertEqual(expected_share(summaries, sides, 8), rows, sides)

    def test_never_fewer_than_none_nor_more_than_all(self):
        chance = random.Random(4)
        for _ in range(300):
            values = [chance.choice((None, 1, 2, 3, 4, 5, 9)) for _ in range(chance.randint(0, 20))]
            sides = [(0, chance.choice(("=", "<", "<=", ">", ">=")), chance.randint(-1, 10)) for _ in range(2)]
            found = expected_share([summarize(values)], sides, len(values))
            self.assertTrue(0 <= found <= len(values) - values.count(None), (values, sides))

    def test_columns_without_values(self):
        for values in ([], [None, None]):
            for sign in ("=", "<", "<=", ">", ">="):
                self.assertEqual(expected_share([summarize(values)], ((0, sign, 1),), 10), 0)


if __name__ == "__main__":
    unittest.main()
