"""Points 7 to 10 over an engine's transactions: whatever plan is chosen, it has the rows of the plain way."""

import random
import unittest

from tablestack.evaluate import Evaluator
from tablestack.explain import explain_lines
from tablestack.order import reorder
from tablestack.physical import JOINS, Chooser, run_plan
from tablestack.rewrite import RULES, rewrite
from tablestack.statistics import summarize_rows
from tests import plain
from tests.databases import session_with
from tests.drawn_plans import HELD, KINDS, PlanDrawer

MANY = 250
WIDTHS = {name: len(kinds) for name, kinds in KINDS.items()}


def drawn_engine(size, capacity):
    """Return an engine that holds the tables of drawn plans, whose rows were changed until they are so."""
    session = session_with(
        "create table t (a int, b int, c text, primary key (a))", "create table u (d int, e text)",
        "create table e (f text, g int)",
        "create index t_b on t (b)", "create index t_cb on t (c, b)", "create index u_d on u (d)",
        "create index e_g on e (g)",
        size=size, capacity=capacity)
    engine = session.engine
    session.run("insert into t values (1, 9, 'q'), (6, 2, 'x')")
    session.run("insert into e values ('x', 1)")
    session.run("delete from e")
    session.run("delete from t")
    for name, rows in HELD.items():
        transaction = engine.begin()
        transaction.change(name, (), [(engine.next_number(name), row) for row in rows])
        engine.commit(transaction)
    return engine


class EnginePlansTest(unittest.TestCase):
    @classmethod
    def setUpClass(cls):
        cls.engine = drawn_engine(200, 3)
        cls.old = cls.engine.begin()
        change = cls.engine.begin()
        change.change("t", [row_key for row_key, row in change.keyed_rows("t")][:4],
            [(0, (9, 2, "x")), (0, (10, None, "y"))])
        cls.engine.commit(change)
        cls.new = cls.engine.begin()
        cls.own = cls.engine.begin()
        cls.own.change("u", [row_key for row_key, row in cls.own.keyed_rows("u")][1:3],
            [(cls.engine.next_number("u"), (2, "xy"))])
        cls.own.change("e", (), [(cls.engine.next_number("e"), row) for row in (("x", 2), (None, 1), ("y", None))])

    def test_plain_rows(self):
        self.check(lambda chance, plan, transaction: Evaluator(transaction).plan_rows(plan))

    def test_rewritten_and_reordered_plans(self):
        def rows(chance, plan, transaction):
            plan = rewrite(plan, chance.sample(RULES, chance.randint(0, 5)))
            if chance.random() < 0.5:
                plan = reorder(plan, {name: transaction.row_count(name) for name in WIDTHS})
            return Evaluator(transaction).plan_rows(plan)

        self.check(rows, True)

    def test_physical_plans(self):
        words = {}

        def rows(chance, plan, transaction):
            counts = {name: transaction.row_count(name) for name in WIDTHS}
            summaries = {name: summarize_rows(transaction.table_rows(name), many) for name,
                many in WIDTHS.items() if chance.random() < 0.3}
            if chance.random() < 0.6:
                plan = reorder(rewrite(plan), counts)
            joins = chance.sample(JOINS, chance.randint(0, 3))
            chosen = Chooser(self.engine.store.catalog, counts, chance.random() < 0.8, joins, summaries).chosen(plan)
            for line in explain_lines(chosen):
                words[line.split()[0]] = words.get(line.split()[0], 0) + 1
            return run_plan(chosen, transaction, chance.random() < 0.5, chance.choice((0, 1, 2, 50)))

        self.check(rows, True)
        self.assertTrue(all(words.get(word, 0) > 5 for word in ("scan", "range", "nested", "hash", "merge", "left",
            "sort", "group")), words)

    def check(self, rows, as_bag=False):
        """Check rows of drawn plans over transactions; plans that are no queries may have them in another order."""
        for seed in range(MANY):
            drawer = PlanDrawer(seed)
            plan = drawer.plan(drawer.chance.randint(1, 4))[0]
            chance = random.Random(seed)
            for transaction in (self.old, self.new, self.own):
                tables = {name: transaction.table_rows(name) for name in WIDTHS}
                wanted = plain.plan_rows(tables, plan)
                found = rows(chance, plan, transaction)
                if as_bag:
                    self.assertEqual(plain.in_order(found), plain.in_order(wanted), plan)
                else:
                    self.assertEqual(found, wanted, plan)


if __name__ == "__main__":
    unittest.main()
