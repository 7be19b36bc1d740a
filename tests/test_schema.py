"""Points 19 and 22: columns, indexes, tables, the catalog, and which declarations are refused."""

import unittest

from tablestack.errors import ConstraintFault, KindFault, NameFault, TextError
from tablestack.parser import parse, parse_expression
from tablestack.schema import (
    Catalog, Column, Index, Table, declared_table, literal_value, referring_table, table_from, table_shown,
)


def declared(text):
    return declared_table(parse(f"create table {text}"))


def sample_table():
    columns = (Column("a", "int", True, None), Column("b", "text", False, "x"), Column("c", "int", False, None))
    return Table("t", columns, (0,), (parse_expression("a > 0"),))


class ObjectsTest(unittest.TestCase):
    def test_column(self):
        column = Column("a", "int", True, 5)
        self.assertEqual((column.name, column.kind, column.needed, column.value), ("a", "int", True, 5))
        self.assertEqual(column.shown(), ("a", "int", True, 5))

    def test_index(self):
        index = Index("i", "t", True, (1, 0))
        self.assertEqual((index.name, index.table, index.unique, index.places), ("i", "t", True, (1, 0)))
        self.assertEqual(index.shown(), ("i", "t", True, (1, 0)))

    def test_table(self):
        table = sample_table()
        self.assertEqual((table.name, table.primary, table.references), ("t", (0,), ()))
        self.assertEqual(table.checks, (parse_expression("a > 0"),))
        self.assertEqual([column.name for column in table.columns], ["a", "b", "c"])
        self.assertEqual(Table("t", (), (), (), (((0,), "u", (1,)),)).references, (((0,), "u", (1,)),))

    def test_places(self):
        table = sample_table()
        self.assertEqual(table.column_names(), ("a", "b", "c"))
        self.assertEqual([table.place_named(name) for name in "abc"], [0, 1, 2])
        self.assertEqual(table.places_of(("c", "a")), (2, 0))
        self.assertEqual(table.places_of(()), ())
        for call, names in ((table.place_named, "d"), (table.places_of, ("a", "d")), (table.places_of, ("a", "b", "a"))):
            with self.assertRaises(NameFault):
                call(names)

    def test_check_row(self):
        table = sample_table()
        for row in ((1, "x", 2), (1, None, None), (-5, "", 0)):
            self.assertIsNone(table.check_row(row))
        for row in (("1", "x", 2), (1, 2, 3), (1, "x", "3"), (1, "x"), (1, "x", 2, 3)):
            with self.assertRaises(KindFault):
                table.check_row(row)
        with self.assertRaises(ConstraintFault):
            table.check_row((None, "x", 2))
        table = Table("t", (Column("a", "int", False, None), Column("b", "text", True, "x")), (), ())
        table.check_row((None, "x"))
        with self.assertRaises(ConstraintFault):
            table.check_row((1, None))

    def test_primary_keys_refuse_null(self):
        table = Table("t", (Column("a", "int", False, None), Column("b", "text", False, None)), (1,), ())
        table.check_row((None, "x"))
        with self.assertRaises(ConstraintFault):
            table.check_row((1, None))

    def test_shown_tables_are_told_back(self):
        table = Table("t", sample_table().columns, (0,), (("null",),), (((1,), "u", (0,)),))
        shown = table_shown(table)
        self.assertEqual(shown, ("t", (("a", "int", True, None), ("b", "text", False, "x"), ("c", "int", False, None)),
                                 (0,), (("null",),), (((1,), "u", (0,)),)))
        self.assertEqual(table_shown(table_from(shown)), shown)
        self.assertIsInstance(table_from(shown).columns[0], Column)


class CatalogTest(unittest.TestCase):
    def test_tables(self):
        catalog = Catalog()
        self.assertEqual((catalog.tables, catalog.indexes, catalog.views), ({}, {}, {}))
        table = sample_table()
        catalog.add_table(table)
        self.assertIs(catalog.table_named("t"), table)
        self.assertEqual(list(catalog.tables), ["t"])
        for call in (lambda: catalog.table_named("u"), lambda: catalog.add_table(sample_table())):
            with self.assertRaises(NameFault):
                call()
        self.assertIs(catalog.tables["t"], table)

    def test_a_view_takes_a_tables_name(self):
        catalog = Catalog()
        catalog.views["t"] = "select 1"
        with self.assertRaises(NameFault):
            catalog.add_table(sample_table())
        with self.assertRaises(NameFault):
            catalog.table_named("t")
        self.assertEqual(catalog.tables, {})

    def test_indexes(self):
        catalog = Catalog()
        catalog.add_table(sample_table())
        first, second, other = Index("z", "t", False, (0,)), Index("b", "t", True, (1,)), Index("c", "u", True, (1,))
        for index in (first, second, other):
            catalog.add_index(index)
        self.assertEqual(catalog.indexes_of("t"), [second, first])
        self.assertEqual(catalog.indexes_of(sample_table()), [second, first])
        self.assertEqual(catalog.indexes_of("w"), [])
        with self.assertRaises(NameFault):
            catalog.add_index(Index("z", "u", False, (0,)))
        self.assertIs(catalog.indexes["z"], first)

    def test_copied(self):
        catalog = Catalog()
        catalog.add_table(sample_table())
        catalog.add_index(Index("i", "t", False, (0,)))
        catalog.views["v"] = "select 1"
        other = catalog.copied()
        self.assertEqual(other.shown(), catalog.shown())
        other.add_table(Table("u", (), (), ()))
        other.add_index(Index("j", "u", False, ()))
        other.views["w"] = "select 2"
        self.assertEqual((list(catalog.tables), list(catalog.indexes), list(catalog.views)), (["t"], ["i"], ["v"]))
        self.assertIs(other.table_named("t"), catalog.table_named("t"))

    def test_shown(self):
        catalog = Catalog()
        self.assertEqual(catalog.shown(), ((), (), ()))
        for name in ("u", "t"):
            catalog.add_table(Table(name, (), (), ()))
        for name in ("j", "i"):
            catalog.add_index(Index(name, "t", False, ()))
        tables, indexes, views = catalog.shown()
        self.assertEqual([shown[0] for shown in tables], ["t", "u"])
        self.assertEqual([shown[0] for shown in indexes], ["i", "j"])
        self.assertEqual(tables[0], table_shown(catalog.table_named("t")))
        self.assertEqual(indexes[0], ("i", "t", False, ()))


class DeclarationTest(unittest.TestCase):
    def test_columns_and_rules(self):
        table, indexes = declared("t (a int not null default -5, b text default 'x', c int, primary key (c, a), unique (b), "
                                  "check (a > 0), unique (a, b), check (b is null))")
        self.assertEqual(table_shown(table)[:4], (
            "t", (("a", "int", True, -5), ("b", "text", False, "x"), ("c", "int", False, None)), (2, 0),
            (parse_expression("a > 0"), parse_expression("b is null"))))
        self.assertEqual([index.shown() for index in indexes], [("t.0", "t", True, (1,)), ("t.1", "t", True, (0, 1))])
        table, indexes = declared("t (check (a > 0), a int)")
        self.assertEqual((table.primary, list(indexes), table.references), ((), [], ()))

    def test_names_that_are_refused(self):
        for text in ("t (a int, a int)", "t (a int, b int, a text)", "t (a int, primary key (a), primary key (a))",
                     "t (a int, b int, primary key (a), primary key (b))", "t (a int, primary key (b))",
                     "t (a int, primary key (a, a))", "t (a int, unique (b))", "t (a int, unique (a, a))",
                     "t (a int, foreign key (b) references u (a))", "t (a int, foreign key (a, a) references u (a, b))",
                     "t (a int, b int, foreign key (a) references u (a, b))",
                     "t (a int, b int, foreign key (a, b) references u (a))"):
            with self.assertRaises(NameFault, msg=text):
                declared(text)

    def test_defaults_of_another_kind(self):
        for text in ("t (a int default 'x')", "t (a text default 5)", "t (a text default -5)", "t (a int default '')"):
            with self.assertRaises(KindFault, msg=text):
                declared(text)
        table, _ = declared("t (a int default null, b text default null)")
        self.assertEqual([column.value for column in table.columns], [None, None])

    def test_defaults_that_are_no_literals(self):
        with self.assertRaises((KindFault, TextError)):
            declared("t (a int default b, b int)")

    def test_literal_value(self):
        self.assertEqual(literal_value(("int", -5), "int"), -5)
        self.assertEqual(literal_value(("text", ""), "text"), "")
        for kind in ("int", "text"):
            self.assertIsNone(literal_value(("null",), kind))
            for tree in (("col", None, "a"), ("neg", ("int", 5)), ("op", "+", ("int", 1), ("int", 1)),
                         ("agg", "count", None, False), ("cmp", "=", ("int", 1), ("int", 1))):
                with self.assertRaises(KindFault):
                    literal_value(tree, kind)
        for tree, kind in ((("int", 1), "text"), (("text", "1"), "int")):
            with self.assertRaises(KindFault):
                literal_value(tree, kind)


class ReferenceTest(unittest.TestCase):
    def catalog(self):
        catalog = Catalog()
        for text in ("u (x int, y text, z int, w int, primary key (x, y), unique (z))", "plain (x int)"):
            table, indexes = declared(text)
            catalog.add_table(table)
            for index in indexes:
                catalog.add_index(index)
        catalog.add_index(Index("extra", "u", True, (3,)))
        catalog.views["v"] = "select 1 as x"
        return catalog

    def referring(self, text):
        return referring_table(self.catalog(), parse(f"create table {text}"))

    def test_references_to_itself(self):
        table, _ = declared("t (a int, b int, primary key (a), foreign key (b) references t (a))")
        self.assertEqual(table.references, (((1,), "t", (0,)),))
        table, _ = declared("t (a int, b int, c int, unique (c, a), foreign key (a, b) references t (a, c))")
        self.assertEqual(table.references, (((0, 1), "t", (0, 2)),))

    def test_references_to_itself_that_do_not_fit(self):
        for text in ("t (a int, b int, foreign key (b) references t (a))", "t (a int, b int, primary key (a), "
                     "foreign key (a) references t (b))", "t (a int, primary key (a), foreign key (a) references t (c))"):
            with self.assertRaises(NameFault, msg=text):
                declared(text)
        with self.assertRaises(KindFault):
            declared("t (a int, b text, primary key (a), foreign key (b) references t (a))")

    def test_references_to_other_tables(self):
        for rule, reference in (("(a, b) references u (x, y)", ((0, 1), "u", (0, 1))),
                                ("(b, a) references u (y, x)", ((1, 0), "u", (1, 0))), ("(a) references u (z)", ((0,), "u", (2,)))):
            table, indexes = self.referring(f"t (a int, b text, unique (a), foreign key {rule})")
            self.assertEqual(table.references, (reference,))
            self.assertEqual([index.name for index in indexes], ["t.0"])
        table, _ = self.referring("t (a int, primary key (a), foreign key (a) references u (z), foreign key (a) references t (a))")
        self.assertEqual(table.references, (((0,), "u", (2,)), ((0,), "t", (0,))))

    def test_references_that_do_not_fit(self):
        for rule in ("(a) references w (x)", "(a) references v (x)", "(a) references u (q)", "(a) references u (x)",
                     "(a, b) references u (z)", "(a) references u (w)", "(a) references plain (x)", "(a, c) references u (x, z)",
                     "(a, a) references u (x, y)", "(a, b) references u (x, x)", "(q) references u (z)"):
            with self.assertRaises(NameFault, msg=rule):
                self.referring(f"t (a int, b text, c int, foreign key {rule})")
        for rule in ("(b) references u (z)", "(b, a) references u (x, y)", "(a, c) references u (x, y)"):
            with self.assertRaises(KindFault, msg=rule):
                self.referring(f"t (a int, b text, c int, foreign key {rule})")


if __name__ == "__main__":
    unittest.main()
