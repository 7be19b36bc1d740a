"""Point 6: where a column is looked for."""

import unittest

from tablestack.errors import NameFault
from tablestack.schema import Column, Table
from tablestack.scope import Scope, find_column, joined_scope, table_scope

COLUMNS = (("t", "a", "int"), ("t", "b", "text"), ("u", "a", "null"), ("s", "c", "int"), ("s", "c", "text"))


class ScopeTest(unittest.TestCase):
    def test_places(self):
        scope = Scope(COLUMNS)
        self.assertEqual(scope.columns, COLUMNS)
        self.assertEqual(scope.places_named(None, "a"), [0, 2])
        self.assertEqual(scope.places_named("u", "a"), [2])
        self.assertEqual(scope.places_named("s", "c"), [3, 4])
        self.assertEqual(scope.places_named("u", "b"), [])
        self.assertEqual(scope.places_of_alias("t"), [0, 1])
        self.assertEqual(scope.places_of_alias(None), [0, 1, 2, 3, 4])
        self.assertEqual(scope.places_of_alias("x"), [])
        self.assertEqual(Scope(()).places_of_alias(None), [])

    def test_find_column(self):
        scopes = [Scope(COLUMNS), Scope(()), Scope((("t", "b", "int"), ("o", "d", "text"), ("t", "e", "int")))]
        self.assertEqual(find_column(scopes, None, "b"), (0, 1, "text"))
        self.assertEqual(find_column(scopes, "u", "a"), (0, 2, "null"))
        self.assertEqual(find_column(scopes, None, "d"), (2, 1, "text"))
        self.assertEqual(find_column(scopes, "t", "b"), (0, 1, "text"))
        self.assertEqual(find_column(scopes, "t", "e"), (2, 2, "int"))
        self.assertEqual(find_column(tuple(scopes), "o", "d"), (2, 1, "text"))

    def test_unknown_and_ambiguous_columns(self):
        scopes = [Scope(COLUMNS), Scope((("x", "a", "int"),))]
        for alias, name in ((None, "a"), ("s", "c"), (None, "c"), (None, "z"), ("t", "c"), ("z", "a")):
            with self.assertRaises(NameFault, msg=(alias, name)):
                find_column(scopes, alias, name)
        with self.assertRaises(NameFault):
            find_column([], None, "a")
        with self.assertRaises(NameFault):
            find_column([Scope(()), Scope(COLUMNS)], None, "a")

    def test_table_scope(self):
        table = Table("t", (Column("a", "int", True, None), Column("b", "text", False, None)), (), ())
        self.assertEqual(table_scope(table, "x").columns, (("x", "a", "int"), ("x", "b", "text")))

    def test_joined_scope(self):
        one, other = Scope(COLUMNS[:2]), Scope(COLUMNS[2:])
        self.assertEqual(joined_scope(one, other).columns, COLUMNS)
        self.assertEqual(joined_scope(Scope(()), other).columns, COLUMNS[2:])
        for pair in ((one, one), (Scope(COLUMNS), Scope((("u", "z", "int"),)))):
            with self.assertRaises(NameFault):
                joined_scope(*pair)


if __name__ == "__main__":
    unittest.main()
