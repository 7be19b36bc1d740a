"""Point 1: whatever plan is chosen, it has the rows that the plain way gives, over plans drawn by chance."""

import unittest

from tablestack.evaluate import Evaluator
from tablestack.order import reorder
from tablestack.plans import width
from tablestack.rewrite import RULES, rewrite, rewrite_once
from tablestack.values import row_rank
from tests import plain
from tests.drawn_plans import HELD, PlanDrawer, drawn_source

COUNTS = {name: len(rows) for name, rows in HELD.items()}
MANY = 700


class DrawnPlansTest(unittest.TestCase):
    @classmethod
    def setUpClass(cls):
        cls.source = drawn_source()
        drawers = [PlanDrawer(seed) for seed in range(MANY)]
        plans = [drawer.plan(drawer.chance.randint(1, 5))[0] for drawer in drawers]
        cls.drawn = [(drawer, plan, cls.rows_of(plan)) for drawer, plan in zip(drawers, plans)]

    @classmethod
    def rows_of(cls, plan):
        return Evaluator(cls.source).plan_rows(plan)

    def check_bag(self, plan, rows):
        self.assertEqual(sorted(self.rows_of(plan), key=row_rank), sorted(rows, key=row_rank), plan)

    def test_plain_rows(self):
        for drawer, plan, rows in self.drawn:
            self.assertEqual(rows, plain.plan_rows(HELD, plan), plan)
            self.assertTrue(all(len(row) == width(plan) for row in rows))
        self.assertGreater(sum(rows != [] for drawer, plan, rows in self.drawn), MANY // 4)

    def test_each_rule(self):
        changed = dict.fromkeys(RULES, 0)
        for drawer, plan, rows in self.drawn:
            for name in RULES:
                found = rewrite_once(name, plan)
                changed[name] += found != plan
                if name == "distinct":
                    self.check_bag(found, rows)
                else:
                    self.assertEqual(self.rows_of(found), rows, (name, plan))
        self.assertGreater(min(changed.values()), MANY // 20, changed)

    def test_rules_in_any_order(self):
        for drawer, plan, rows in self.drawn:
            rules = drawer.chance.sample(RULES, drawer.chance.randint(1, len(RULES)))
            found = rewrite(plan, tuple(rules))
            self.check_bag(found, rows)
            self.assertEqual(rewrite(found, tuple(rules)), found)

    def test_join_orders(self):
        changed = 0
        for drawer, plan, rows in self.drawn:
            counts = drawer.chance.choice((COUNTS, {}, {"t": 500, "u": 3, "e": 40}))
            for one in (plan, rewrite(plan)):
                found = reorder(one, counts)
                changed += found != one
                self.check_bag(found, rows)
        self.assertGreater(changed, MANY // 20)


if __name__ == "__main__":
    unittest.main()
