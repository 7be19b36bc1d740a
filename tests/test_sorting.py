"""Point 1's sorted runs: rows sorted in runs of limited length, runs merged, rows that tie in their order."""

import random
import unittest

from tablestack.errors import PlanFault
from tablestack.sorting import merged_pair, ordered_pair, run_count, sort_rows, sorted_run
from tablestack.values import row_rank


def ranked(rows):
    """Return (ranks, row) of rows that are told by the values of their orders and a name."""
    return [(row_rank(row[:-1]), row) for row in rows]


def plainly_sorted(pairs, descending):
    for place in reversed(range(len(descending))):
        pairs = sorted(pairs, key=lambda pair: pair[0][place], reverse=descending[place])
    return pairs


class SortingTest(unittest.TestCase):
    def test_ordered_pairs(self):
        for one, other, descending, wanted in (
            ((1,), (2,), (False,), True), ((2,), (1,), (False,), False), ((1,), (1,), (False,), True),
            ((1,), (2,), (True,), False), ((2,), (1,), (True,), True),
            ((1,), (1,), (True,), True), ((None,), (1,), (False,), True), ((None,), (1,), (True,), False),
            ((1,), ("a",), (False,), True), ((1,), (None,), (True,), True),
            ((1, 5), (1, 4), (False, False), False), ((1, 5), (1, 4), (False, True), True),
            ((1, 5), (2, 4), (True, True), False), (("a", 1), ("b", 0), (False, True), True),
            ((None, None), (None, None), (True, False), True), ((), (), (), True),
        ):
            self.assertIs(ordered_pair(row_rank(one), row_rank(other), descending), wanted, (one, other, descending))

    def test_merged_pairs(self):
        one, other = ranked([(1, "a"), (3, "b"), (3, "c")]), ranked([(1, "d"), (2, "e"), (3, "f"), (4, "g")])
        self.assertEqual([row[-1] for ranks, row in merged_pair(one, other, (False,))], list("adebcfg"))
        self.assertEqual([row[-1] for ranks, row in merged_pair(other, one, (False,))], list("daefbcg"))
        self.assertEqual([row[-1] for ranks, row in merged_pair(one[::-1], other[::-1], (True,))], list("gcbfead"))
        self.assertEqual(merged_pair(one, [], (False,)), one)
        self.assertEqual(merged_pair([], other, (False,)), other)
        self.assertEqual(merged_pair([], [], ()), [])

    def test_sorted_runs(self):
        rows = ranked([(2, "a"), (None, "b"), (1, "c"), (2, "d"), (None, "e")])
        self.assertEqual([row[-1] for ranks, row in sorted_run(rows, (False,))], list("becad"))
        self.assertEqual([row[-1] for ranks, row in sorted_run(rows, (True,))], list("adcbe"))
        self.assertEqual(sorted_run([], (False,)), [])
        self.assertEqual(sorted_run([((), "x"), ((), "y")], ()), [((), "x"), ((), "y")])
        self.assertEqual(rows[0][1], (2, "a"))

    def test_runs_of_any_length(self):
        chance = random.Random(5)
        for many in (0, 1, 2, 3, 4, 5, 7, 8, 9, 16, 31):
            rows = ranked([(chance.choice((None, 1, 2, 3)), chance.choice((None, "a", "b")),
                        place) for place in range(many)])
            for descending in ((False, False), (True, False), (False, True), (True, True)):
                wanted = plainly_sorted(rows, descending)
                for limit in (1, 2, 3, 4, 8, many + 1, max(1, many), max(1, many - 1), 1000):
                    self.assertEqual(sort_rows(rows, descending, limit), wanted, (many, limit, descending))

    def test_rows_that_tie_keep_their_order(self):
        rows = ranked([(1, place) for place in range(9)])
        for limit in range(1, 11):
            self.assertEqual(sort_rows(rows, (False,), limit), rows)
            self.assertEqual(sort_rows(rows, (True,), limit), rows)

    def test_limits_below_one(self):
        for limit in (0, -1, -1000):
            for rows in ([], ranked([(1, "a")])):
                with self.assertRaises(PlanFault):
                    sort_rows(rows, (False,), limit)

    def test_run_counts(self):
        for many, limit, runs in ((0, 3, 0), (1, 3, 1), (3, 3, 1), (4, 3, 2), (6, 3, 2), (7, 3, 3), (5, 1, 5),
            (5, 100, 1), (5, 0, 1), (0, 0, 0)):
            self.assertEqual(run_count(many, limit), runs, (many, limit))


if __name__ == "__main__":
    unittest.main()
