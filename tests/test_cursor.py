"""Point 7 and cursors: a query's rows handed out a few at a time, as they were when it was opened."""

import unittest

from tablestack.cursor import Cursor, fetch_all, open_cursor
from tablestack.errors import NameFault, StateFault, TextError
from tablestack.server import Answer
from tests.databases import session_with

ROWS = tuple((number,) for number in range(1, 8))


def cursor_of(rows=ROWS):
    return Cursor(Answer("select", ("a",), rows, 0))


class CursorTest(unittest.TestCase):
    def test_fetch(self):
        cursor = cursor_of()
        self.assertEqual((cursor.names, cursor.rows, cursor.place, cursor.closed, cursor.rest()),
            (("a",), ROWS, 0, False, 7))
        for many, rows, rest in ((2, ROWS[:2], 5), (0, (), 5), (3, ROWS[2:5], 2), (5, ROWS[5:], 0), (1, (), 0),
            (0, (), 0)):
            self.assertEqual((cursor.fetch(many), cursor.rest(), cursor.place), (rows, rest, 7 - rest))
        self.assertEqual(cursor_of(()).fetch(3), ())

    def test_wrong_numbers(self):
        cursor = cursor_of()
        cursor.fetch(1)
        for many in (-1, -7):
            self.assertRaises(StateFault, cursor.fetch, many)
        self.assertEqual((cursor.place, cursor.fetch(1)), (1, ((2,),)))

    def test_skip(self):
        cursor = cursor_of()
        for many, place in ((3, 3), (-1, 2), (0, 2), (-9, 0), (99, 7), (1, 7), (-7, 0), (6, 6)):
            self.assertEqual((cursor.skip(many), cursor.place, cursor.rest()), (place, place, 7 - place))
        self.assertEqual(cursor.fetch(5), ((7,),))
        self.assertEqual(cursor_of(()).skip(-3), 0)

    def test_closed_ones(self):
        cursor = cursor_of()
        cursor.fetch(2)
        cursor.close()
        self.assertTrue(cursor.closed)
        for call in (lambda: cursor.fetch(1), lambda: cursor.fetch(0), lambda: cursor.skip(1),
            lambda: fetch_all(cursor, 1)):
            self.assertRaises(StateFault, call)
        self.assertEqual((cursor.place, cursor.rest()), (2, 5))
        cursor.close()
        self.assertTrue(cursor.closed)

    def test_fetch_all(self):
        for many, pieces in ((3, [ROWS[:3], ROWS[3:6], ROWS[6:]]), (7, [ROWS]), (50, [ROWS]),
            (1, [(row,) for row in ROWS])):
            cursor = cursor_of()
            self.assertEqual((fetch_all(cursor, many), cursor.rest()), (pieces, 0))
        cursor = cursor_of()
        cursor.skip(5)
        self.assertEqual((fetch_all(cursor, 4), fetch_all(cursor, 4), fetch_all(cursor_of(()), 2)),
            ([ROWS[5:]], [], []))
        for many in (0, -1):
            cursor = cursor_of()
            self.assertRaises(StateFault, fetch_all, cursor, many)
            self.assertEqual(cursor.place, 0)


class OpenTest(unittest.TestCase):
    def setUp(self):
        self.session = session_with("create table t (a int, b text)",
            "insert into t values (2, 'y'), (1, 'x'), (3, null)")

    def test_rows_as_they_were(self):
        cursor = open_cursor(self.session, "select b, a from t order by a desc;")
        self.session.run("delete from t")
        self.assertEqual((cursor.names, cursor.fetch(2), cursor.fetch(2)),
            (("b", "a"), ((None, 3), ("y", 2)), (("x", 1),)))
        self.assertEqual(open_cursor(self.session, "(select a from t) union select 5").rows, ((5,),))

    def test_within_a_transaction(self):
        self.session.run("begin")
        self.session.run("delete from t where a = 1")
        cursor = open_cursor(self.session, "select a from t")
        self.session.run("rollback")
        self.assertEqual(fetch_all(cursor, 1), [((2,),), ((3,),)])

    def test_other_statements_are_not_carried_out(self):
        for text in ("delete from t", "insert into t values (9, 'z')", "explain select a from t", "begin",
            "drop table t", "analyze t", "create view v as select 1"):
            self.assertRaises(StateFault, open_cursor, self.session, text)
        self.assertEqual((self.session.run("select a from t").rows, self.session.transaction),
            (((1,), (2,), (3,)), None))
        self.assertRaises(TextError, open_cursor, self.session, "selec")
        self.assertRaises(NameFault, open_cursor, self.session, "select z from t")


if __name__ == "__main__":
    unittest.main()
