"""Tables' rows in memory, as plans read them."""

import unittest

from tablestack.codec import key_of, upper_key
from tablestack.errors import NameFault
from tests.drawn_plans import HELD, drawn_catalog, drawn_source
from tablestack.source import Source


class SourceTest(unittest.TestCase):
    def test_rows_in_the_order_of_their_keys(self):
        source = Source(drawn_catalog(), {"t": HELD["t"][::-1], "u": HELD["u"][::-1]})
        self.assertEqual(source.table_rows("t"), HELD["t"])
        self.assertEqual(source.table_rows("u"), HELD["u"][::-1])
        self.assertEqual(source.table_rows("e"), [])
        self.assertRaises(NameFault, source.table_rows, "none")

    def test_rows_between_keys(self):
        source = drawn_source()
        two, eight = key_of((2,)), key_of((8,))
        self.assertEqual(source.primary_rows("t", two, eight), HELD["t"][1:6])
        self.assertEqual(source.primary_rows("t", eight, None), HELD["t"][6:])
        self.assertEqual(source.primary_rows("t", (), None), HELD["t"])
        self.assertEqual(source.index_rows("t_b", two, upper_key(two)), [row for row in HELD["t"] if row[1] == 2])
        self.assertEqual(source.index_rows("u_d", (), two), [(None, "y"), (1, None)])
        self.assertRaises(NameFault, source.primary_rows, "none", (), None)
        self.assertRaises(NameFault, source.index_rows, "t", (), None)


if __name__ == "__main__":
    unittest.main()
