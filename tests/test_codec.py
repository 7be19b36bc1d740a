"""Point 12: keys and records as bytes and back."""

import itertools
import random
import unittest
import zlib

from tablestack.codec import (
    ALPHABET, check_text, checksum, fixed, key_of, key_of_value, natural, natural_from, number_from, record_of, row_from,
    sign_at, sign_number, upper_key, value_from_key, value_from_record, values_from_key,
)
from tablestack.errors import RecordFault, TextError
from tablestack.values import row_rank

HIGHEST = 9223372036854775807
SIGNS = "\n" + "".join(chr(code) for code in range(32, 127) if chr(code) != "%")
VALUES = (None, -HIGHEST, -HIGHEST + 1, -256, -1, 0, 1, 255, 256, HIGHEST - 1, HIGHEST, "", "\n", " ", "a", "aa", "ab", "b", "~")


class AlphabetTest(unittest.TestCase):
    def test_every_character_that_can_be_stored(self):
        self.assertEqual(ALPHABET, SIGNS)
        self.assertEqual(len(ALPHABET), 95)
        for place, sign in enumerate(SIGNS):
            self.assertEqual(sign_number(sign), place)
            self.assertEqual(sign_at(place), sign)
        self.assertEqual(check_text(SIGNS), SIGNS)
        self.assertEqual(check_text(""), "")

    def test_characters_that_cannot_be_stored(self):
        for sign in ("%", "\t", "\r", "\0", "\x1f", "\x7f", "\xe9", "\u20ac"):
            for call in (sign_number, check_text, lambda text: check_text("ab" + text), key_of_value):
                with self.assertRaises(TextError):
                    call(sign)
            with self.assertRaises(TextError):
                key_of((1, sign))
            with self.assertRaises(TextError):
                record_of((sign,))

    def test_places_without_a_character(self):
        for number in (-1, 95, 255):
            with self.assertRaises(RecordFault):
                sign_at(number)


class NumberTest(unittest.TestCase):
    def test_fixed(self):
        self.assertEqual(fixed(0, 4), (0, 0, 0, 0))
        self.assertEqual(fixed(258, 2), (1, 2))
        self.assertEqual(fixed(258, 4), (0, 0, 1, 2))
        self.assertEqual(fixed(2 ** 64 - 1, 8), (255,) * 8)
        self.assertEqual(fixed(0, 0), ())

    def test_number_from(self):
        self.assertEqual(number_from(()), 0)
        self.assertEqual(number_from((1, 2)), 258)
        for number in (0, 1, 255, 256, 65535, 2 ** 62, 2 ** 64 - 1):
            self.assertEqual(number_from(fixed(number, 8)), number)

    def test_natural(self):
        for number, data in ((0, (0,)), (1, (1,)), (127, (127,)), (128, (128, 1)), (300, (172, 2)), (16383, (255, 127)),
                             (16384, (128, 128, 1))):
            self.assertEqual(natural(number), data)
            self.assertEqual(natural_from(data, 0), (number, len(data)))
        for number in (2 ** 64, 2 ** 64 + 1, 10 ** 30):
            self.assertEqual(natural_from((9, *natural(number), 7), 1), (number, 1 + len(natural(number))))

    def test_naturals_that_are_none(self):
        for data in ((), (128,), (255, 255), (128, 0), (129, 0), (128, 128, 0)):
            with self.assertRaises(RecordFault):
                natural_from(data, 0)
        with self.assertRaises(RecordFault):
            natural_from((1, 2), 2)


class KeyTest(unittest.TestCase):
    def test_bytes_of_values(self):
        self.assertEqual(key_of_value(None), (1,))
        self.assertEqual(key_of_value(-HIGHEST), (2, 0, 0, 0, 0, 0, 0, 0, 0))
        self.assertEqual(key_of_value(0), (2, 127, 255, 255, 255, 255, 255, 255, 255))
        self.assertEqual(key_of_value(HIGHEST), (2, 255, 255, 255, 255, 255, 255, 255, 254))
        self.assertEqual(key_of_value(""), (3, 1))
        self.assertEqual(key_of_value("\n ~"), (3, 2, 3, 96, 1))
        self.assertEqual(key_of((None, "a", 0)), key_of_value(None) + key_of_value("a") + key_of_value(0))
        self.assertEqual(key_of(()), ())

    def test_keys_order_as_rows(self):
        rows = [(), *[(one,) for one in VALUES], *itertools.product(VALUES, VALUES)]
        rows += [("a", "", "b"), ("a", None, 1), ("ab", 0, 0)]
        self.assertEqual(sorted(rows, key=key_of), sorted(rows, key=row_rank))
        self.assertEqual(len({key_of(row) for row in rows}), len(rows))

    def test_no_key_begins_another(self):
        keys = [key_of_value(value) for value in VALUES]
        for one, other in itertools.permutations(keys, 2):
            self.assertNotEqual(other[:len(one)], one)

    def test_keys_are_read_back(self):
        for row in [(), *[(one,) for one in VALUES], *itertools.product(VALUES, VALUES), VALUES, (SIGNS,)]:
            self.assertEqual(values_from_key(key_of(row)), row)
        data = key_of(("a", 5))
        self.assertEqual(value_from_key(data, 0), ("a", 3))
        self.assertEqual(value_from_key(data, 3), (5, 12))

    def test_bytes_that_are_no_key(self):
        wrong = ((0,), (4,), (255,), (2,), (2, 0, 0, 0, 0, 0, 0, 0), (2, *[255] * 8), (3,), (3, 50), (3, 0, 1),
                 (3, 97, 1), (3, 255, 1), (1, 9), (4, 1), (0, 1), (4, 50, 1))
        for data in wrong:
            with self.assertRaises(RecordFault, msg=data):
                values_from_key(data)
        for place in (-1, 1, 2):
            with self.assertRaises(RecordFault):
                value_from_key((1,), place)

    def test_keys_cut_anywhere(self):
        data = key_of_value("ab") + key_of_value(77)
        for end in range(1, len(data)):
            if end not in (0, len(key_of_value("ab"))):
                with self.assertRaises(RecordFault):
                    values_from_key(data[:end])

    def test_upper_key(self):
        self.assertEqual(upper_key((1, 2)), (1, 3))
        self.assertEqual(upper_key((1, 255)), (2,))
        self.assertEqual(upper_key((0,)), (1,))
        self.assertEqual(upper_key((7, 255, 255)), (8,))
        self.assertEqual(upper_key((255, 0, 255)), (255, 1))
        for prefix in ((), (255,), (255, 255)):
            self.assertIsNone(upper_key(prefix))


class RecordTest(unittest.TestCase):
    def test_bytes_of_rows(self):
        self.assertEqual(record_of(()), (0,))
        self.assertEqual(record_of((None,)), (1, 1))
        self.assertEqual(record_of((0, 1, -1, 64, -64)), (5, 2, 0, 2, 2, 2, 1, 2, 128, 1, 2, 127))
        self.assertEqual(record_of(("", "\n a")), (2, 3, 0, 3, 3, 0, 1, ALPHABET.index("a")))

    def test_records_are_read_back(self):
        for row in [(), *[(one,) for one in VALUES], *itertools.product(VALUES, VALUES), VALUES, (SIGNS,), ("ab" * 200,),
                    (None,) * 200]:
            self.assertEqual(row_from(record_of(row)), row)

    def test_values_within_a_record(self):
        data = record_of((5, "ab", None))
        self.assertEqual(value_from_record(data, 1), (5, 3))
        self.assertEqual(value_from_record(data, 3), ("ab", 7))
        self.assertEqual(value_from_record(data, 7), (None, 8))
        for data, place in ((data, 8), ((3, 1), 0), ((3, 5, 40), 0), ((3, 2, 40), 0), ((2,), 0), ((9, 0), 0), ((4, 1, 1), 0)):
            with self.assertRaises(RecordFault, msg=data):
                value_from_record(data, place)

    def test_bytes_that_are_no_record(self):
        wrong = ((), (1,), (1, 0), (1, 4, 0), (1, 2), (1, 2, 128), (1, 2, 128, 0), (128, 0), (0, 1), (1, 1, 1), (2, 1),
                 (1, 3), (1, 3, 1), (1, 3, 2, 5), (1, 3, 1, 95), (1, 9, 1, 1))
        for data in wrong:
            with self.assertRaises(RecordFault, msg=data):
                row_from(data)

    def test_numbers_at_the_range_and_one_beyond(self):
        for value in (HIGHEST, -HIGHEST):
            self.assertEqual(row_from((1, 2, *natural(2 * value if value > 0 else -2 * value - 1))), (value,))
        for folded in (2 * (HIGHEST + 1), 2 * (HIGHEST + 1) - 1, 2 ** 80):
            with self.assertRaises(RecordFault):
                row_from((1, 2, *natural(folded)))

    def test_records_cut_anywhere_or_longer(self):
        data = record_of((5, "ab", None, 300))
        for end in range(len(data)):
            with self.assertRaises(RecordFault):
                row_from(data[:end])
        for one in (0, 1, 255):
            with self.assertRaises(RecordFault):
                row_from((*data, one))

    def test_many_values_that_are_not_there(self):
        with self.assertRaises(RecordFault):
            row_from((*natural(2 ** 70), 1, 1))


class ChecksumTest(unittest.TestCase):
    def test_known_checksums(self):
        self.assertEqual(checksum(()), (0, 0, 0, 1))
        self.assertEqual(checksum((1,)), (0, 2, 0, 2))
        self.assertEqual(checksum((1, 2)), (0, 6, 0, 4))

    def test_sums_by_65521(self):
        chance = random.Random(5)
        for length in (3, 300, 3000):
            for data in ([255] * length, [chance.randrange(256) for _ in range(length)]):
                self.assertEqual(number_from(checksum(tuple(data))), zlib.adler32(bytes(data)))


if __name__ == "__main__":
    unittest.main()
