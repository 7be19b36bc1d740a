"""Points 8 and 10: physical plans: which index is taken, how joins are carried out; the rows are the plan's own."""

import unittest

from tablestack.access import Bounds, asked_of
from tablestack.codec import key_of
from tablestack.errors import KindFault, NameFault, PlanFault
from tablestack.evaluate import Evaluator
from tablestack.order import reorder
from tablestack.parser import parse
from tablestack.physical import (
    JOINS, Chooser, equal_pair, equal_pairs, literal_of, physical_inputs, plan_words, run_plan,
)
from tablestack.rewrite import rewrite
from tablestack.schema import Index, declared_table
from tablestack.source import Source
from tablestack.statistics import summarize_rows
from tablestack.translate import translate
from tests.drawn_plans import HELD, PlanDrawer, drawn_catalog, drawn_source
from tests.trees import FALSE, FAULTY, NULL, TRUE, UNIT, both, cmp, equal, field, fields, num, text, up

T, U, E = ("scan", "t", 3), ("scan", "u", 2), ("scan", "e", 2)
F0, F1, F2, F3, F4, F5 = fields(6)
COUNTS = {name: len(rows) for name, rows in HELD.items()}
LARGE = {"t": 1000, "u": 1000, "e": 1000}
SUMMARIES = {name: summarize_rows(rows, len(drawn_catalog().tables[name].columns)) for name, rows in HELD.items()}
QUERY = ("scalar", ("project", (num(2),), UNIT))


def shown(plan):
    """Return a physical plan with its bounds shown."""
    if plan[0] == "range":
        return (*plan[:2], (plan[2][0], plan[2][1].shown()), plan[3])
    return tuple(shown(part) if isinstance(part, tuple) and part and isinstance(part[0],
            str) else part for part in plan)


class WayTest(unittest.TestCase):
    def way(self, name, test, counts=LARGE, summaries=None, catalog=None):
        found = Chooser(catalog or drawn_catalog(), counts, summaries=summaries).best_way(name, test)
        return None if found is None else (found[0], found[1].shown())

    def test_the_way_of_the_fewest_rows(self):
        key, second, third = equal(F0, num(1)), equal(F1, num(2)), equal(F2, text("x"))
        for test, way in (
            (key, (None, ((num(1),), None, None))), (second, ("t_b", ((num(2),), None, None))),
            (third, ("t_cb", ((text("x"),), None, None))),
            (both(second, third), ("t_cb", ((text("x"), num(2)), None, None))),
            (both(third, cmp("<", F1, num(3))), ("t_cb", ((text("x"),), None, ("<", num(3))))),
            (both(key, second), (None, ((num(1),), None, None))),
            (both(cmp(">", F0, num(1)), second), ("t_b", ((num(2),), None, None))),
            (both(cmp(">", F0, num(1)), cmp("<", F1, num(1))), (None, ((), (">", num(1)), None))),
            (both(cmp(">", F0, num(1)), cmp("<", F1, num(1)), cmp(">=", F1, num(0))),
             ("t_b", ((), (">=", num(0)), ("<", num(1))))),
            (both(cmp("<", num(5), F0), cmp(">=", num(9), F0)), (None, ((), (">", num(5)), ("<=", num(9))))),
            (cmp("<>", F0, num(1)), None), (("or", key, key), None), (equal(F0, F1), None), (TRUE, None),
            (("isnull", F0, False), None),
        ):
            self.assertEqual(self.way("t", test), way, test)
        self.assertEqual(self.way("u", equal(F0, field(1, 1))), ("u_d", ((field(1, 1),), None, None)))
        self.assertIsNone(self.way("u", equal(F1, text("x"))))
        self.assertRaises(NameFault, self.way, "none", key)
        self.assertRaises(PlanFault, self.way, "t", equal(F0, ("col", None, "a")))

    def test_ways_that_expect_as_many_rows(self):
        catalog = drawn_catalog()
        for name in ("z", "b_first", "a"):
            catalog.add_index(Index(name, "u", False, (0,)))
        self.assertEqual(self.way("u", equal(F0, num(1)), catalog=catalog)[0], "a")
        for name in ("t_a", "a_t"):
            catalog.add_index(Index(name, "t", True, (0,)))
        self.assertIsNone(self.way("t", equal(F0, num(1)), catalog=catalog)[0])
        self.assertEqual(self.way("t", both(equal(F0, num(1)), equal(F1, num(1))), {}, catalog=catalog)[0], None)
        self.assertIsNone(self.way("t", both(cmp("<", F0, num(1)), equal(F1, num(1))), {"t": 1}, catalog=catalog)[0])

    def test_analyzed_tables(self):
        rows = [(number, number // 50, "x" if number % 2 else "y") for number in range(100)]
        summaries = {"t": summarize_rows(rows, 3)}
        counts = {"t": 100}
        for test, name in (
            (both(equal(F1, num(1)), equal(F2, text("x"))), "t_cb"),
            (both(equal(F1, num(1)), equal(F2, ("op", "||", text("x"), text("y")))), "t_cb"),
            (both(cmp(">", F0, num(5)), equal(F1, num(1))), "t_b"),
            (both(cmp(">", F0, num(95)), equal(F1, num(1))), None),
            (both(cmp(">", F0, num(95)), equal(F2, text("x"))), None),
            (both(cmp("<", F0, num(3)), equal(F2, text("x"))), None),
            (both(cmp(">", F0, num(95)), equal(F1, ("neg", num(1)))), "t_b"),
            (both(equal(F0, num(1)), equal(F1, NULL)), "t_b"),
            (both(cmp(">", F0, field(0, 1)), equal(F1, num(1))), None),
            (both(cmp(">", F0, field(0, 1)), equal(F1, QUERY)), None),
        ):
            self.assertEqual(self.way("t", test, counts, summaries)[0], name, test)

    def test_expected_rows(self):
        rows = [(number, number // 50, "x" if number % 2 else "y") for number in range(100)]
        plainly, known = Chooser(drawn_catalog(), {"t": 100}), Chooser(drawn_catalog(), {"t": 100},
            summaries={"t": summarize_rows(rows, 3)})
        for places, test, many, share in (
            ((0,), equal(F0, num(1)), 11, 1), ((1,), equal(F1, num(1)), 11, 50),
            ((2, 1), both(equal(F1, num(1)), equal(F2, text("x"))), 2, 25),
            ((0,), cmp("<", F0, num(50)), 34, 50), ((0,), cmp(">=", F0, num(75)), 34, 25),
            ((2, 0), both(equal(F2, text("x")), cmp("<", F0, num(25))), 4, 12),
            ((0,), equal(F0, ("neg", num(1))), 11, 0), ((0,), equal(F0, NULL), 11, 0),
            ((0,), cmp(">", F0, field(0, 1)), 34, 0), ((0,), TRUE, 100, 100),
            ((2, 0), both(equal(F2, text("x")), cmp("<", F0, QUERY)), 4, 0),
        ):
            self.assertEqual(plainly.expected("t", places, asked_of(test, places)), many, test)
            self.assertEqual(known.expected("t", places, asked_of(test, places)), share, test)
        self.assertEqual(plainly.expected("u", (0,), asked_of(equal(F0, num(1)), (0,))), 1)

    def test_literals(self):
        for tree, value in ((num(5), 5), (num(0), 0), (text("a"), "a"), (text(""), ""), (NULL, None), (F0, None),
            (field(1, 2), None), (("neg", num(1)), None), (QUERY, None)):
            self.assertEqual(literal_of(tree), value)


class PairTest(unittest.TestCase):
    def test_pairs(self):
        plan = ("project", (field(3, 1),), UNIT)
        for tree, pair in (
            (equal(F0, F3), (F0, F0)), (equal(F3, F0), (F0, F0)), (equal(F2, F4), (F2, F1)),
            (equal(("op", "+", F0, F1), ("neg", F4)), (("op", "+", F0, F1), ("neg", F1))),
            (equal(("op", "+", F4, num(1)), F2), (F2, ("op", "+", F1, num(1)))),
            (equal(("op", "+", F0, field(0, 1)), ("op", "*", field(5, 1), F3)),
             (("op", "+", F0, field(0, 1)), ("op", "*", field(5, 1), F0))),
            (equal(F0, ("scalar", plan)), (F0, ("scalar", ("project", (field(0, 1),), UNIT)))),
            (equal(F0, F1), None), (equal(F3, F4), None), (equal(F0, num(1)), None), (equal(num(1), F3), None),
            (equal(num(1), num(1)), None), (equal(F0, field(0, 1)), None),
            (equal(("op", "+", F0, F3), F4), None), (equal(F0, ("op", "+", F0, F3)), None), (cmp("<", F0, F3), None),
            (cmp("<>", F0, F3), None), (("isnull", F0, False), None), (TRUE, None),
        ):
            self.assertEqual(equal_pair(tree, 3), pair, tree)

    def test_conditions(self):
        less = cmp("<", F0, F3)
        for test, pairs, rest in (
            (None, (), None), (less, (), less), (equal(F0, F3), ((F0, F0),), None),
            (both(equal(F0, F3), less), ((F0, F0),), less), (both(less, equal(F4, F1), TRUE, equal(F0, F3)),
             ((F1, F1), (F0, F0)), both(less, TRUE)),
            (("or", equal(F0, F3), less), (), ("or", equal(F0, F3), less)),
            (both(equal(F0, F3), equal(F0, F3)), ((F0, F0), (F0, F0)), None),
        ):
            self.assertEqual(equal_pairs(test, 3), (pairs, rest), test)
        self.assertRaises(PlanFault, equal_pairs, equal(F0, ("col", None, "a")), 3)


class ChosenTest(unittest.TestCase):
    def chosen(self, plan, indexed=True, joins=JOINS):
        return shown(Chooser(drawn_catalog(), LARGE, indexed, joins).chosen(plan))

    def test_filters_of_scans(self):
        test = both(equal(F0, num(1)), cmp("<", F1, F0))
        found = ("range", "t", (None, ((num(1),), None, None)), test)
        self.assertEqual(self.chosen(("filter", test, T)), found)
        self.assertEqual(self.chosen(("filter", test, T), False), ("filter", test, T))
        self.assertEqual(self.chosen(("sort", up(0), ("filter", TRUE, ("filter", test, T)))),
            ("sort", up(0), ("filter", TRUE, found)))
        self.assertEqual(self.chosen(("union", True, ("filter", test, T), ("limit", 1, 0, ("filter", test, T)))),
            ("union", True, found, ("limit", 1, 0, found)))
        for plan in (UNIT, T, ("filter", cmp("<>", F0, num(1)), T), ("filter", equal(F1, text("x")), U),
            ("filter", test, ("distinct", T)), ("project", (F0,), T),
                     ("filter", ("or", equal(F0, num(1)), equal(F0, num(2))), T),
                     ("filter", ("exists", ("filter", test, T)), T), ("limit", 2, 1, ("group", (F0,), (), T))):
            self.assertEqual(self.chosen(plan), plan)
        self.assertIsInstance(Chooser(drawn_catalog(), {}).chosen(("filter", test, T))[2][1], Bounds)

    def test_joins(self):
        less = cmp("<", F1, F3)
        pairs = ((F0, F0), (F2, F1))
        equals = both(equal(F0, F3), equal(F4, F2))
        for test, joins, found in (
            (None, JOINS, ("nested", False, None, T, U, 2)), (less, JOINS, ("nested", False, less, T, U, 2)),
            (equals, JOINS, ("hash", False, pairs, None, T, U, 2)),
            (both(equals, less), ("hash",), ("hash", False, pairs, less, T, U, 2)),
            (both(less, equals), ("merge",), ("merge", False, pairs, less, T, U, 2)),
            (equals, ("nested", "merge"), ("merge", False, pairs, None, T, U, 2)),
            (equals, ("hash", "merge"), ("hash", False, pairs, None, T, U, 2)),
            (equals, ("nested",), ("nested", False, equals, T, U, 2)), (equals, (), ("nested", False, equals, T, U, 2)),
            (less, ("hash",), ("nested", False, less, T, U, 2)),
        ):
            self.assertEqual(self.chosen(("join", False, test, T, U), joins=joins), found)
            self.assertEqual(self.chosen(("join", True, test, T, U), joins=joins), (found[0], True, *found[2:]))
        self.assertEqual(self.chosen(("join", True, equal(F0, F5), ("join", False, None, T, U),
                    ("filter", equal(F0, num(1)), T))),
                         ("hash", True, ((F0, F0),), None, ("nested", False, None, T, U, 2),
                          ("range", "t", (None, ((num(1),), None, None)), equal(F0, num(1))), 3))
        self.assertEqual(JOINS, ("nested", "hash", "merge"))

    def test_choosers(self):
        catalog = drawn_catalog()
        chooser = Chooser(catalog, {}, False)
        self.assertIs(chooser.catalog, catalog)
        self.assertIs(chooser.indexed, False)
        self.assertIs(Chooser(catalog, {}).indexed, True)
        self.assertEqual(chooser.best_way("t", equal(F0, num(1)))[0], None)
        self.assertRaises(NameFault, Chooser(catalog, {}).chosen, ("filter", equal(F0, num(1)), ("scan", "none", 1)))
        self.assertRaises(PlanFault, Chooser(catalog, {}).chosen, ("distinct", ("walk",)))

    def test_inputs_and_words(self):
        ranged = Chooser(drawn_catalog(), LARGE).chosen(("filter", equal(F0, num(1)), T))
        nested = ("nested", False, None, T, ranged, 3)
        hashed = ("hash", True, ((F0, F0),), None, nested, U, 2)
        merged = ("merge", False, ((F0, F0),), TRUE, U, hashed, 8)
        for plan, inner, words in (
            (T, (), ["scan"]), (ranged, (), ["range"]), (nested, (T, ranged), ["nested", "scan", "range"]),
            (hashed, (nested, U), ["hash", "nested", "scan", "range", "scan"]),
            (merged, (U, hashed), ["merge", "scan", "hash", "nested", "scan", "range", "scan"]),
            (("sort", up(0), ranged), (ranged,), ["sort", "range"]),
            (("except", True, nested, U), (nested, U), ["except", "nested", "scan", "range", "scan"]),
            (("join", False, None, T, U), (T, U), ["join", "scan", "scan"]),
        ):
            self.assertEqual(physical_inputs(plan), inner)
            self.assertEqual(plan_words(plan), words)
        self.assertRaises(PlanFault, physical_inputs, ("walk", T))
        self.assertRaises(PlanFault, plan_words, ("filter", TRUE, ("walk", T)))


class SpiedSource(Source):
    """A source that remembers how it was read."""

    def __init__(self, catalog, held):
        Source.__init__(self, catalog, held)
        self.calls = []

    def table_rows(self, name):
        self.calls.append(("table", name))
        return Source.table_rows(self, name)

    def primary_rows(self, name, low, high):
        self.calls.append(("primary", name, low, high))
        return [row for row in Source.table_rows(self,
                name) if low <= key_of(row[:1]) and (high is None or key_of(row[:1]) < high)]

    def index_rows(self, name, low, high):
        self.calls.append(("index", name, low, high))
        places = self.catalog.indexes[name].places
        keyed = [(key_of([row[place] for place in places]), row) for row in Source.table_rows(self,
                self.catalog.indexes[name].table)]
        return [row for key, row in keyed if low <= key and (high is None or key < high)]


class RunTest(unittest.TestCase):
    def run_ways(self, plan, source=None):
        """Return the rows of a plan, carried out in all ways, which give the rows of the plain way in its order."""
        source = source or drawn_source()
        rows = Evaluator(source).plan_rows(plan)
        for joins in (("nested",), ("hash",), ("merge",), JOINS):
            for indexed in (True, False):
                found = Chooser(source.catalog, COUNTS, indexed, joins).chosen(plan)
                for compiled in (False, True):
                    for limit in (0, 1, 2, 3, 1000):
                        self.assertEqual(run_plan(found, source, compiled, limit), rows, (found, compiled, limit))
        return rows

    def test_ranges_read_what_they_ask_for(self):
        one, two = key_of((1,)), key_of((2,))
        x_two = key_of(("x", 2))
        for test, call in (
            (equal(F0, num(1)), ("primary", "t", one, two)), (cmp("<", F0, num(1)), ("primary", "t", (), one)),
            (equal(F1, num(1)), ("index", "t_b", one, two)),
            (both(equal(F2, text("x")), equal(F1, num(2)), cmp("<>", F0, num(1))),
             ("index", "t_cb", x_two, key_of(("x", 3)))),
            (equal(F1, NULL), None), (both(cmp(">", F0, num(5)), cmp("<", F0, num(3))), None),
            (cmp("<>", F0, num(1)), ("table", "t")), (equal(F0, ("neg", text("a"))), ("table", "t")),
        ):
            source = SpiedSource(drawn_catalog(), {**HELD, "t": []} if call == ("table", "t") else HELD)
            found = Chooser(source.catalog, LARGE).chosen(("filter", test, T))
            rows = run_plan(found, source)
            self.assertEqual(source.calls, [] if call is None else [call], test)
            self.assertEqual(rows, Evaluator(source).plan_rows(("filter", test, T)))

    def test_ranges(self):
        for test, keys in (
            (equal(F0, num(3)), [3]), (equal(F0, num(6)), []), (cmp(">", F0, num(4)), [5, 7, 8]),
            (both(cmp(">=", F0, num(2)), cmp("<=", F0, num(4))), [2, 3, 4]),
            (equal(F1, num(2)), [1, 3, 8]), (cmp("<", F1, num(2)), [4]), (equal(F1, NULL), []),
            (both(equal(F1, num(2)), equal(F2, text("x"))), [1, 8]),
            (both(cmp("<", F0, num(4)), ("isnull", F1, False)), [2]),
            (both(cmp(">", F1, num(1)), cmp("<", F1, num(3)), cmp("<>", F0, num(3))), [1, 8]),
            (equal(F0, QUERY), [2]), (both(equal(F0, num(1)), equal(F0, num(2))), []), (equal(F2, text("")), []),
            (cmp(">=", F2, text("")), [1, 2, 4, 7, 8]),
        ):
            self.assertEqual([row[0] for row in self.run_ways(("filter", test, T))], keys, test)

    def test_joins(self):
        for left in (False, True):
            for test in (
                None, equal(F0, F3), equal(F3, F0), both(equal(F0, F3), equal(F2, F4)),
                both(equal(F1, F3), cmp("<", F0, num(5))), both(equal(F1, F3), cmp("<>", F2, F4)),
                equal(("op", "+", F0, num(1)), ("op", "*", F3, num(2))), both(equal(F1, F3), FALSE),
                both(equal(F1, F3), NULL), cmp("<", F0, F3), equal(F2, F4), NULL,
                both(equal(F0, F3), ("exists", ("filter", equal(F0, field(0, 1)), U))),
                equal(F0, ("op", "/", F3, num(0))),
            ):
                for one, other in ((T, U), (("filter", FALSE, T), U), (T, ("filter", FALSE, U)),
                    (("filter", FALSE, T), ("filter", FALSE, U)), (T, ("distinct", U))):
                    self.run_ways(("join", left, test, one, other))
        self.assertEqual(len(self.run_ways(("join", True, both(equal(F1, F3), equal(F2, F4)), T, U))), 9)
        self.assertEqual(self.run_ways(("join", False, equal(F1, F3), ("filter", ("isnull", F1, False), T),
                    ("filter", ("isnull", F0, False), U))), [])
        self.assertEqual(self.run_ways(("join", True, equal(F0, F1), ("project", (num(1),), UNIT),
                    ("project", (num(1),), UNIT))), [(1, 1)])

    def test_sorts_and_others(self):
        self.run_ways(("sort", ((F1, True), (F2, False)), T))
        self.run_ways(("sort", ((F2, True),), ("union", True, T, T)))
        self.run_ways(("sort", (), T))
        self.run_ways(("limit", 2, 1, ("sort", up(1),
                    ("group", (F2, F1), (("count", None, False),), ("join", False, None, T, U)))))
        self.run_ways(("project", (F1, ("scalar", ("project", (field(0, 1),), UNIT))),
                ("filter", ("inquery", F0, ("project", (F1,), T), False), T)))
        self.run_ways(("except", True, ("distinct", U), ("filter", equal(F0, num(2)), U)))

    def test_what_is_not_reached_does_not_fault(self):
        less = cmp("<", F0, num(3))
        for plan in (
            ("filter", FAULTY, E), ("filter", both(FALSE, FAULTY), T), ("filter", ("or", TRUE, FAULTY), T),
            ("filter", both(equal(F0, num(99)), FAULTY), T),
            ("filter", both(equal(F1, ("neg", text("a")))), E), ("join", False, FAULTY, T, E),
            ("join", True, equal(F0, ("neg", F3)), T, ("project", (F0, F1), E)),
            ("join", True, equal(("neg", F2), F3), T, ("filter", FALSE, U)),
            ("join", False, equal(F0, ("neg", F4)), ("filter", FALSE, T), U),
            ("filter", ("case", ((less, TRUE),), TRUE), T), ("filter", both(("isnull", F0, False), equal(F0, F2)), T),
        ):
            self.run_ways(plan)

    def test_what_is_reached_faults(self):
        source = drawn_source()
        for plan in (
            ("filter", FAULTY, T), ("filter", equal(F0, ("neg", text("a"))), T), ("join", False, FAULTY, T, U),
            ("join", False, equal(F0, F4), T, U), ("join", True, equal(F2, F3), T, U),
            ("join", False, equal(F0, ("neg", F4)), T, U), ("sort", ((("neg", F2), False),), T),
            ("project", (("neg", F2),), T),
        ):
            for joins in (("nested",), ("hash",), ("merge",)):
                for compiled in (False, True):
                    with self.assertRaises(KindFault, msg=plan):
                        run_plan(Chooser(source.catalog, COUNTS, joins=joins).chosen(plan), source, compiled)
        self.assertRaises(PlanFault, run_plan, ("walk", T), source)
        self.assertRaises(NameFault, run_plan, ("scan", "none", 1), source)

    def test_plans_that_are_not_chosen(self):
        self.assertEqual(run_plan(("join", False, equal(F0, F3), T, U), drawn_source(), True, 2),
            Evaluator(drawn_source()).plan_rows(("join", False, equal(F0, F3), T, U)))

    def test_drawn_plans(self):
        source = drawn_source()
        words = set()
        for seed in range(500):
            drawer = PlanDrawer(seed)
            plan, _ = drawer.plan(drawer.chance.randint(1, 5))
            for one in (plan, reorder(rewrite(plan), COUNTS)):
                joins = drawer.chance.choice((JOINS, ("nested",), ("hash",), ("merge",), ("nested", "merge"), ()))
                chooser = Chooser(source.catalog, COUNTS, drawer.flag(0.8), joins,
                    drawer.chance.choice((None, SUMMARIES)))
                found = chooser.chosen(one)
                words.update(plan_words(found))
                rows = Evaluator(source).plan_rows(one)
                self.assertEqual(run_plan(found, source, drawer.flag(), drawer.chance.choice((0, 1, 2, 3, 100))), rows,
                    one)
        self.assertTrue({"range", "nested", "hash", "merge"} <= words)


class QueryTest(unittest.TestCase):
    """Whole queries give the same rows in the same order in all ways."""

    def test_queries(self):
        catalog = drawn_catalog()
        catalog.add_table(declared_table(parse("create table w (a int, x text, primary key (x, a))"))[0])
        source = Source(catalog, {**HELD, "w": [(1, "x"), (2, "x"), (1, "y"), (5, "")]})
        for query in (
            "select * from t", "select a, e from t join u on a = d where c = 'x' or b > 1",
            "select distinct c from t order by 1 desc limit 2",
            "select t.a, w.a from t, w, u where t.a = w.a and w.x = u.e and u.d = 2",
            "select c, count(*) as n, sum(b) from t group by c order by n desc, c",
            "select a from t where a in (select d from u where e = c) or exists (select * from e where g = a)",
            "select x from w where x = 'x' and a > 1",
            "select a from t left join u on a = d and e = 'x' where d is null",
            "select b from t union all select d from u except select 2",
            "select count(*) from t, u, w where t.b = u.d and w.a = t.a and t.a between 1 and 3 + 1",
            "select * from w where x >= '' and x < 'y' order by a limit 1 offset 1",
        ):
            plan, _ = translate(catalog, parse(query))
            rows = Evaluator(source).plan_rows(plan)
            for one in (plan, rewrite(plan), reorder(rewrite(plan), COUNTS), reorder(plan, {})):
                self.assertEqual(Evaluator(source).plan_rows(one), rows)
                for joins in (("nested",), ("hash",), ("merge",)):
                    found = Chooser(catalog, COUNTS, True, joins).chosen(one)
                    self.assertEqual(run_plan(found, source, True, 2), rows, query)


if __name__ == "__main__":
    unittest.main()
