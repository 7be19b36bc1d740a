"""Point 10: what conditions ask of an index's columns, the range of keys, and numbers of expected rows."""

import unittest

from tablestack.access import Bounds, asked_of, expected_rows, key_range, selectivity, sided
from tablestack.codec import key_of, upper_key
from tablestack.errors import KindFault, PlanFault, TextError
from tablestack.evaluate import Evaluator
from tests.drawn_plans import drawn_source
from tests.trees import FALSE, FAULTY, NULL, TRUE, UNIT, both, cmp, equal, field, num, text

HIGHEST = 9223372036854775807
T, U = ("scan", "t", 3), ("scan", "u", 2)
F0, F1, F2 = [field(place) for place in range(3)]
OUT = field(0, 1)
QUERY = ("scalar", ("project", (num(5),), UNIT))
OWN_QUERY = ("scalar", ("project", (field(0, 1),), UNIT))


class BoundsTest(unittest.TestCase):
    def test_bounds(self):
        bounds = Bounds([num(1), NULL], (">", num(2)), None)
        self.assertEqual(bounds.shown(), ((num(1), NULL), (">", num(2)), None))
        self.assertEqual((bounds.equals, bounds.low, bounds.high), ((num(1), NULL), (">", num(2)), None))
        self.assertFalse(bounds.is_open())
        self.assertTrue(Bounds((), None, None).is_open())
        for one in (Bounds((num(1),), None, None), Bounds((), (">=", NULL), None), Bounds((), None, ("<", OUT))):
            self.assertFalse(one.is_open())

    def test_sides(self):
        for tree, side in (
            (equal(F1, num(5)), (1, "=", num(5))), (equal(num(5), F1), (1, "=", num(5))),
            (cmp("<", F0, text("a")), (0, "<", text("a"))),
            (cmp("<", text("a"), F0), (0, ">", text("a"))), (cmp("<=", num(1), F2), (2, ">=", num(1))),
            (cmp(">", num(1), F2), (2, "<", num(1))),
            (cmp(">=", num(1), F2), (2, "<=", num(1))), (cmp(">=", F2, NULL), (2, ">=", NULL)),
            (equal(F0, OUT), (0, "=", OUT)),
            (cmp(">", OUT, F0), (0, "<", OUT)), (equal(F0, ("op", "+", OUT, num(1))),
             (0, "=", ("op", "+", OUT, num(1)))), (equal(F0, QUERY), (0, "=", QUERY)),
            (cmp("<>", F0, num(1)), None), (cmp("<>", num(1), F0), None), (equal(F0, F1), None), (equal(F0, F0), None),
            (equal(F0, ("op", "+", F1, num(1))), None),
            (equal(("op", "+", F0, num(1)), num(2)), None), (equal(num(1), num(2)), None), (equal(OUT, num(2)), None),
            (equal(F0, OWN_QUERY), None),
            (("between", F0, num(1), num(2), False), None), (("isnull", F0, False), None),
            (("in", F0, (num(1),), False), None), (TRUE, None),
            (("not", equal(F0, num(1))), None), (("or", equal(F0, num(1)), equal(F0, num(2))), None),
        ):
            self.assertEqual(sided(tree), side, tree)
        self.assertRaises(PlanFault, sided, equal(F0, ("col", None, "a")))

    def test_what_is_asked(self):
        one, two, low, high = equal(F0, num(1)), equal(num(2), F1), cmp(">", F1, num(3)), cmp("<=", F1, num(9))
        for test, places, shown in (
            (one, (0,), ((num(1),), None, None)), (one, (1,), ((), None, None)), (one, (), ((), None, None)),
            (one, (1, 0), ((), None, None)),
            (both(one, two), (0, 1), ((num(1), num(2)), None, None)),
            (both(one, two), (1, 0), ((num(2), num(1)), None, None)),
            (both(low, one, high), (0, 1), ((num(1),), (">", num(3)), ("<=", num(9)))),
            (both(low, high), (1,), ((), (">", num(3)), ("<=", num(9)))),
            (both(low, high), (0, 1), ((), None, None)), (both(high, two), (1, 0), ((num(2),), None, None)),
            (both(low, one), (1, 0), ((), (">", num(3)), None)),
            (both(cmp(">=", F1, num(4)), low, high, cmp("<", F1, num(5))), (1,), ((), (">=", num(4)), ("<=", num(9)))),
            (both(equal(F0, num(7)), one), (0, 1), ((num(7),), None, None)),
            (("or", one, two), (0, 1), ((), None, None)),
            (both(("or", one, two), one), (0, 1), ((num(1),), None, None)),
            (cmp("<>", F0, num(1)), (0,), ((), None, None)),
            (both(equal(F0, OUT), cmp("<", NULL, F1)), (0, 1, 2), ((OUT,), (">", NULL), None)),
            (("not", one), (0,), ((), None, None)),
        ):
            self.assertEqual(asked_of(test, places).shown(), shown, (test, places))


class KeyRangeTest(unittest.TestCase):
    def range_of(self, test, places, rows=()):
        return key_range(asked_of(test, places), Evaluator(drawn_source(), rows))

    def test_ranges(self):
        one, seven = key_of((1,)), key_of((1, 7))
        for test, places, wanted in (
            (TRUE, (0,), ((), None)), (equal(F0, num(1)), (0,), (one, upper_key(one))),
            (equal(F0, num(1)), (0, 1), (one, upper_key(one))),
            (both(equal(F0, num(1)), equal(F1, num(7))), (0, 1), (seven, upper_key(seven))),
            (cmp(">=", F0, num(1)), (0,), (one, None)),
            (cmp(">", F0, num(1)), (0,), (upper_key(one), None)), (cmp("<", F0, num(1)), (0,), ((), one)),
            (cmp("<=", F0, num(1)), (0,), ((), upper_key(one))),
            (both(equal(F0, num(1)), cmp(">", F1, num(7))), (0, 1), (upper_key(seven), upper_key(one))),
            (equal(F2, text("")), (2,), ((3, 1), (3, 2))),
            (both(equal(F0, num(1)), cmp("<=", F1, num(7))), (0, 1), (one, upper_key(seven))),
            (cmp("<", num(3), F0), (0,), (upper_key(key_of((3,))), None)),
            (both(cmp(">=", F0, num(1)), cmp("<", F0, num(5))), (0,), (one, key_of((5,)))),
            (equal(F0, ("op", "-", num(2), num(1))), (0,), (one, upper_key(one))),
            (equal(F0, QUERY), (0,), (key_of((5,)), key_of((6,)))),
        ):
            self.assertEqual(self.range_of(test, places), wanted, test)

    def test_greatest_and_least_integers(self):
        high, low = key_of((HIGHEST,)), key_of((-HIGHEST,))
        for test, wanted in (
            (equal(F0, num(HIGHEST)), (high, upper_key(high))), (cmp(">", F0, num(HIGHEST)), (upper_key(high), None)),
            (cmp(">=", F0, num(HIGHEST)), (high, None)),
            (cmp("<=", F0, num(HIGHEST)), ((), upper_key(high))), (equal(F0, num(-HIGHEST)), (low, upper_key(low))),
            (cmp("<", F0, num(-HIGHEST)), ((), low)),
            (cmp(">", F0, num(-HIGHEST)), (upper_key(low), None)), (equal(F0, ("op", "+", num(HIGHEST), num(1))), None),
        ):
            self.assertEqual(self.range_of(test, (0,)), wanted, test)
        self.assertLess(key_of((HIGHEST,)), key_of(("",)))

    def test_no_row_can_be(self):
        for test in (
            equal(F0, NULL), cmp(">", F0, NULL), cmp("<=", NULL, F0), both(equal(F0, num(1)), cmp("<", F1, NULL)),
            both(equal(F0, NULL), equal(F1, num(1))),
            both(cmp(">", F0, num(1)), cmp("<", F0, NULL)), equal(F0, ("op", "/", num(1), num(0))),
            both(cmp(">", F0, num(5)), cmp("<", F0, num(3))),
            both(cmp(">", F0, num(5)), cmp("<=", F0, num(5))),
        ):
            self.assertIsNone(self.range_of(test, (0, 1)), test)

    def test_rows_outside(self):
        one = key_of((1,))
        self.assertEqual(self.range_of(equal(F0, OUT), (0,), ((1,),)), (one, upper_key(one)))
        self.assertEqual(self.range_of(cmp(">=", F0, field(1, 2)), (0,), ((9,), (8, 1))), (one, None))
        self.assertEqual(self.range_of(equal(F0, ("op", "+", OUT, num(1))), (0,), ((0,),)), (one, upper_key(one)))
        self.assertIsNone(self.range_of(equal(F0, OUT), (0,), ((None,),)))

    def test_faults(self):
        self.assertRaises(KindFault, self.range_of, equal(F0, ("neg", text("a"))), (0,))
        self.assertRaises(TextError, self.range_of, equal(F0, text("%")), (0,))
        self.assertRaises(PlanFault, self.range_of, equal(F0, field(0, 1)), (0,))

    def test_all_rows_lie_between(self):
        values = (None, -HIGHEST, -2, -1, 0, 1, 2, 255, 256, HIGHEST)
        rows = [(one, other) for one in values for other in values]
        for sign in ("=", "<", "<=", ">", ">="):
            for number in values[1:]:
                for test, places in ((cmp(sign, F0, num(number)), (0, 1)),
                    (both(cmp(sign, F0, num(number)), equal(F1, num(2))), (1, 0))):
                    found = self.range_of(test, places)
                    for row in rows:
                        key = key_of([row[place] for place in places])
                        if Evaluator(None, (row,)).value_of(test) is True:
                            self.assertTrue(found[0] <= key and (found[1] is None or key < found[1]), (test, row))


class ExpectedRowsTest(unittest.TestCase):
    def test_selectivity(self):
        for bounds, many, rows in (
            (Bounds((), None, None), 50, 50), (Bounds((), None, None), 0, 0), (Bounds((num(1),), None, None), 100, 11),
            (Bounds((num(1),), None, None), 99, 10),
            (Bounds((num(1), num(2)), None, None), 100, 2), (Bounds((), (">", num(1)), None), 100, 34),
            (Bounds((), None, ("<", num(1))), 100, 34),
            (Bounds((), (">", num(1)), ("<", num(1))), 100, 12), (Bounds((num(1),), (">", num(1)), None), 100, 4),
            (Bounds((num(1),), None, None), 0, 1),
            (Bounds((num(1),), None, None), 1, 1), (Bounds((), (">", num(1)), None), 0, 1),
            (Bounds((), (">", num(1)), None), 1, 1), (Bounds((), (">", num(1)), None), 2, 1),
        ):
            self.assertEqual(selectivity(bounds, many), rows, (bounds.shown(), many))

    def check(self, cases):
        counts = {"t": 100, "u": 20, "e": 0, "one": 1, "two": 2}
        for plan, rows in cases:
            self.assertEqual(expected_rows(plan, counts), rows, plan)

    def test_scans_and_filters(self):
        less = cmp("<", F0, num(1))
        self.check((
            (UNIT, 1), (T, 100), (("scan", "e", 1), 0), (("scan", "none", 1), 0),
            (("filter", equal(F0, num(1)), T), 11), (("filter", equal(F0, F1), T), 11),
            (("filter", less, T), 34), (("filter", both(equal(F0, num(1)), less), T), 4),
            (("filter", both(less, equal(F0, num(1))), T), 4),
            (("filter", ("or", less, less), T), 34), (("filter", cmp("<>", F0, num(1)), T), 34),
            (("filter", ("not", equal(F0, num(1))), T), 34),
            (("filter", equal(F0, num(1)), ("scan", "e", 1)), 0), (("filter", less, ("scan", "e", 1)), 0),
            (("filter", less, ("scan", "one", 1)), 1),
            (("filter", less, ("scan", "two", 1)), 1), (("filter", equal(F0, num(1)), ("scan", "two", 1)), 1),
            (("filter", less, UNIT), 1),
        ))

    def test_joins(self):
        less = cmp("<", F0, num(1))
        self.check((
            (("join", False, None, T, U), 2000), (("join", False, equal(F0, F2), T, U), 201),
            (("join", False, less, T, U), 667),
            (("join", False, both(equal(F0, F2), less), T, U), 68), (("join", False, None, T, ("scan", "e", 1)), 0),
            (("join", False, less, T, ("scan", "e", 1)), 1),
            (("join", False, equal(F0, F1), ("scan", "e", 1), T), 1),
            (("join", False, None, ("filter", less, T), U), 680),
            (("join", False, equal(F0, F1), ("join", False, None, U, U), UNIT), 41),
        ))

    def test_left_joins(self):
        less = cmp("<", F0, num(1))
        empty = ("scan", "e", 1)
        self.check((
            (("join", True, None, UNIT, empty), 1), (("join", True, less, UNIT, empty), 1),
            (("join", True, None, T, empty), 100), (("join", True, equal(F0, F2), T, empty), 100),
            (("join", True, both(equal(F0, F2), less), T, U), 100), (("join", True, equal(F0, F2), T, U), 201),
            (("join", True, both(equal(F0, F2), less), U, T), 68),
            (("join", True, both(equal(F0, F2), less, less), U, T), 23),
            (("join", True, both(equal(F0, F2), equal(F0, F2), less), U, T), 20), (("join", True, less, empty, T), 1),
            (("join", True, None, empty, T), 0), (("join", True, None, T, U), 2000),
            (("join", True, None, T, UNIT), 100),
            (("join", True, FALSE, ("filter", equal(F0, num(1)), T), ("scan", "none", 1)), 11),
            (("join", True, None, ("join", True, None, T, empty), empty), 100),
            (("join", False, None, ("join", True, None, T, empty), U), 2000),
            (("filter", equal(F0, num(1)), ("join", True, None, T, empty)), 11),
        ))
        self.assertEqual(expected_rows(("join", True, None, UNIT, ("scan", "t", 1)), {}), 1)

    def test_others_as_they_read(self):
        self.check((
            (("project", (F0,), T), 100), (("sort", (), T), 100), (("distinct", T), 100), (("union", True, T, U), 120),
            (("except", True, T, U), 100),
            (("intersect", False, T, U), 20), (("limit", 5, 0, T), 5), (("limit", None, 0, T), 100),
            (("limit", 500, 0, T), 100), (("group", (), (), T), 1),
            (("group", (F0,), (), T), 100), (("limit", 50, 80, T), 20), (("limit", None, 300, T), 0),
            (("limit", -1, -1, T), 0),
        ))
        self.assertRaises(PlanFault, expected_rows, ("walk", T), {})
        self.assertRaises(PlanFault, expected_rows, ("filter", FAULTY, ("walk",)), {})


if __name__ == "__main__":
    unittest.main()
