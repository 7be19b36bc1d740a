"""Point 2: values, their order, operations and truths."""

import itertools
import unittest

from tablestack.errors import KindFault
from tablestack.lexer import tokenize
from tablestack.parser import parse_expression
from tablestack.values import (
    arithmetic, both, closed, compare, concat, either, in_range, kind_of, least_of, like, negated, quoted, rank,
    row_rank, same_kind, stepped, sum_of, value_text,
)

HIGHEST = 9223372036854775807
LOWEST = -9223372036854775807
TRUTHS = (True, False, None)


class KindsTest(unittest.TestCase):
    def test_kind_of(self):
        self.assertEqual([kind_of(one) for one in (None, 0, HIGHEST, -5, "", "null")],
                         ["null", "int", "int", "int", "text", "text"])

    def test_in_range(self):
        for number in (0, 1, -1, HIGHEST, LOWEST):
            self.assertEqual(in_range(number), number)
        for number in (HIGHEST + 1, LOWEST - 1, 10 ** 30, -10 ** 30):
            self.assertIsNone(in_range(number))

    def test_rank_orders_values(self):
        ordered = [None, LOWEST, -2, -1, 0, 1, HIGHEST, "", "\n", "\nz", " ", "!", "0", "A", "Z", "_", "a", "aa", "b", "~"]
        ranks = [rank(value) for value in ordered]
        self.assertTrue(all(isinstance(one, tuple) and len(one) == 2 for one in ranks))
        for one, other in itertools.combinations(ranks, 2):
            self.assertLess(one, other)
        self.assertEqual([rank(value) for value in ordered], ranks)

    def test_row_rank(self):
        self.assertEqual(row_rank((1, "a", None)), (rank(1), rank("a"), rank(None)))
        self.assertEqual(row_rank(()), ())
        rows = [(), (None,), (None, 5), (1,), (1, "a"), ("a",)]
        self.assertEqual(sorted(reversed(rows), key=row_rank), rows)

    def test_same_kind(self):
        for one, other in ((1, 2), ("a", "b"), (None, 1), ("a", None), (None, None)):
            self.assertIsNone(same_kind(one, other))
        for one, other in ((1, "1"), ("", 0)):
            with self.assertRaises(KindFault):
                same_kind(one, other)


class CompareTest(unittest.TestCase):
    SIGNS = ("=", "<>", "<", "<=", ">", ">=")

    def test_integers_and_texts(self):
        for low, high in ((1, 2), (LOWEST, HIGHEST), (-1, 0), ("", "a"), ("a", "ab"), ("A", "a"), ("\n", " "), ("10", "9")):
            self.assertEqual([compare(sign, low, high) for sign in self.SIGNS], [False, True, True, True, False, False])
            self.assertEqual([compare(sign, high, low) for sign in self.SIGNS], [False, True, False, False, True, True])
            self.assertEqual([compare(sign, low, low) for sign in self.SIGNS], [True, False, False, True, False, True])

    def test_null(self):
        for sign in self.SIGNS:
            for one, other in ((None, None), (None, 1), (1, None), (None, ""), ("", None)):
                self.assertIsNone(compare(sign, one, other))

    def test_kinds_do_not_fit(self):
        for sign in self.SIGNS:
            for one, other in ((1, "1"), ("1", 1)):
                with self.assertRaises(KindFault):
                    compare(sign, one, other)


class ArithmeticTest(unittest.TestCase):
    def test_sums_and_products(self):
        self.assertEqual(arithmetic("+", 2, 3), 5)
        self.assertEqual(arithmetic("-", 2, 3), -1)
        self.assertEqual(arithmetic("*", -2, 3), -6)
        self.assertEqual(arithmetic("+", HIGHEST, 0), HIGHEST)
        self.assertEqual(arithmetic("-", LOWEST, 0), LOWEST)
        self.assertEqual(arithmetic("*", HIGHEST, -1), LOWEST)

    def test_out_of_range_is_null(self):
        for sign, one, other in (("+", HIGHEST, 1), ("-", LOWEST, 1), ("+", LOWEST, -1), ("*", HIGHEST, 2), ("*", LOWEST, HIGHEST)):
            self.assertIsNone(arithmetic(sign, one, other))

    def test_division_rounds_down_and_mod_has_the_divisors_sign(self):
        cases = ((7, 2, 3, 1), (-7, 2, -4, 1), (7, -2, -4, -1), (-7, -2, 3, -1), (6, 3, 2, 0), (-6, 3, -2, 0), (0, 5, 0, 0),
                 (1, 9, 0, 1), (-1, 9, -1, 8), (1, -9, -1, -8), (HIGHEST, -1, LOWEST, 0), (LOWEST, -1, HIGHEST, 0))
        for one, other, share, rest in cases:
            self.assertEqual(arithmetic("/", one, other), share, (one, other))
            self.assertEqual(arithmetic("mod", one, other), rest, (one, other))

    def test_by_zero_is_null(self):
        for one in (0, 1, -1, HIGHEST):
            self.assertIsNone(arithmetic("/", one, 0))
            self.assertIsNone(arithmetic("mod", one, 0))

    def test_null(self):
        for sign in ("+", "-", "*", "/", "mod"):
            for one, other in ((None, 1), (1, None), (None, None), (None, 0)):
                self.assertIsNone(arithmetic(sign, one, other))

    def test_texts_are_no_numbers(self):
        for sign in ("+", "-", "*", "/", "mod"):
            for one, other in (("a", 1), (1, "a"), ("a", "b"), ("a", None), (None, "a"), ("1", 0)):
                with self.assertRaises(KindFault):
                    arithmetic(sign, one, other)

    def test_concat(self):
        self.assertEqual(concat("ab", "c"), "abc")
        self.assertEqual(concat("", ""), "")
        for one, other in ((None, "a"), ("a", None), (None, None)):
            self.assertIsNone(concat(one, other))
        for one, other in ((1, "a"), ("a", 1), (1, 2), (None, 1), (1, None)):
            with self.assertRaises(KindFault):
                concat(one, other)


class TruthTest(unittest.TestCase):
    def test_every_truth_against_every_truth(self):
        for one, other in itertools.product(TRUTHS, TRUTHS):
            known = False if False in (one, other) else None if None in (one, other) else True
            self.assertIs(both(one, other), known, (one, other))
            known = True if True in (one, other) else None if None in (one, other) else False
            self.assertIs(either(one, other), known, (one, other))

    def test_negated(self):
        self.assertIs(negated(True), False)
        self.assertIs(negated(False), True)
        self.assertIsNone(negated(None))


class LikeTest(unittest.TestCase):
    def plain_like(self, text, pattern):
        if pattern == "":
            return text == ""
        if pattern[0] == "*":
            return any(self.plain_like(text[place:], pattern[1:]) for place in range(len(text) + 1))
        return text != "" and pattern[0] in ("_", text[0]) and self.plain_like(text[1:], pattern[1:])

    def test_patterns(self):
        right = (("", ""), ("", "*"), ("", "***"), ("a", "_"), ("\n", "_"), ("abc", "a_c"), ("abc", "*"), ("abc", "a*"),
                 ("abc", "*c"), ("abc", "*b*"), ("abcbd", "a*b*d"), ("aab", "*ab"), ("mississippi", "m*iss*ip*i"),
                 ("a_b", "a_b"), ("a*b", "a*b"), ("ab", "*_*_*"), ("A", "A"), ("a'b", "a'b"))
        wrong = (("a", ""), ("", "_"), ("ab", "_"), ("abc", "a_"), ("abc", "*b"), ("abc", "b*"), ("a", "A"), ("a", "*_*_*"),
                 ("abcb", "a*b*d"), ("mississippi", "m*iss*x*i"), ("ab", "a.b"))
        for text, pattern in right:
            self.assertIs(like(text, pattern), True, (text, pattern))
        for text, pattern in wrong:
            self.assertIs(like(text, pattern), False, (text, pattern))

    def test_all_short_patterns(self):
        for length in range(4):
            for pattern in itertools.product("ab_*", repeat=length):
                for many in range(4):
                    for text in itertools.product("ab", repeat=many):
                        one, other = "".join(text), "".join(pattern)
                        self.assertIs(like(one, other), self.plain_like(one, other), (one, other))

    def test_many_stars_take_no_long_time(self):
        self.assertIs(like("a" * 300, "*a" * 60 + "*"), True)
        self.assertIs(like("a" * 300, "*a" * 60 + "*b"), False)

    def test_null_and_numbers(self):
        for text, pattern in ((None, "a"), ("a", None), (None, None)):
            self.assertIsNone(like(text, pattern))
        for text, pattern in ((1, "a"), ("a", 1), (1, 1), (None, 1), (1, None)):
            with self.assertRaises(KindFault):
                like(text, pattern)

    def test_closed(self):
        self.assertEqual(closed([0], "**a"), [0, 1, 2])
        self.assertEqual(closed([0], "a*"), [0])
        self.assertEqual(closed([1], "a*"), [1, 2])
        self.assertEqual(closed([2, 0], "*a*"), [0, 1, 2, 3])
        self.assertEqual(closed([], "*"), [])
        self.assertEqual(closed([1], "a"), [1])

    def test_stepped(self):
        self.assertEqual(stepped([0], "a", "ab"), [1])
        self.assertEqual(stepped([0], "b", "ab"), [])
        self.assertEqual(stepped([1], "x", "a_"), [2])
        self.assertEqual(stepped([2], "a", "ab"), [])
        states = closed(stepped(closed([0], "*ab"), "a", "*ab"), "*ab")
        self.assertEqual(states, [0, 1, 2])


class TextTest(unittest.TestCase):
    def test_value_text(self):
        for value, text in ((None, "null"), (0, "0"), (-5, "-5"), (HIGHEST, "9223372036854775807"),
                            (LOWEST, "-9223372036854775807"), ("", "''"), ("a b", "'a b'"), ("it's", "'it''s'"),
                            ("''", "''''''"), ("a\nb", "'a\nb'")):
            self.assertEqual(value_text(value), text)

    def test_value_text_is_read_back(self):
        for value in (None, 0, -5, HIGHEST, LOWEST, "", "it's", "'", "--", "a\nb"):
            tree = parse_expression(value_text(value))
            self.assertEqual(tree, ("null",) if value is None else (kind_of(value), value))

    def test_quoted(self):
        self.assertEqual(quoted("a"), "'a'")
        self.assertEqual(quoted("'a'"), "'''a'''")
        self.assertEqual(tokenize(quoted("'a' -- b"))[0].value, "'a' -- b")


class AggregateTest(unittest.TestCase):
    def test_sum_of(self):
        self.assertEqual(sum_of([1, 2, 3]), 6)
        self.assertEqual(sum_of((None, 5, None)), 5)
        self.assertEqual(sum_of([0]), 0)
        self.assertIsNone(sum_of([]))
        self.assertIsNone(sum_of([None, None]))
        self.assertIsNone(sum_of([HIGHEST, 1]))
        self.assertIsNone(sum_of([LOWEST, -1]))
        self.assertEqual(sum_of([HIGHEST, 1, -1]), HIGHEST)

    def test_sum_of_texts(self):
        for values in (["a"], [1, "a"], [None, "a"], ["a", HIGHEST]):
            with self.assertRaises(KindFault):
                sum_of(values)

    def test_least_of(self):
        self.assertEqual(least_of([3, None, -1, 2], False), -1)
        self.assertEqual(least_of([3, None, -1, 2], True), 3)
        self.assertEqual(least_of(["b", "a", "ab"], False), "a")
        self.assertEqual(least_of(("b", None, "ba"), True), "ba")
        for greatest in (True, False):
            self.assertIsNone(least_of([], greatest))
            self.assertIsNone(least_of([None], greatest))


if __name__ == "__main__":
    unittest.main()
