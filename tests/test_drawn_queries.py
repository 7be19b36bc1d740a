"""Point 1: whatever plan is chosen, a query answers with the rows that going through all rows gives, in order."""

import random
import unittest

from tablestack.errors import KindFault
from tablestack.evaluate import Evaluator
from tablestack.parser import parse
from tablestack.physical import JOINS
from tablestack.rewrite import RULES
from tablestack.server import Options
from tablestack.translate import translate
from tests.databases import fault_of, session_with
from tests.drawn_queries import SETUP, QueryDrawer

MANY = 60
QUERIES = 8


def drawn_session(seed):
    """Return a session over drawn rows, some of which were changed; tables may be analyzed, a transaction open."""
    chance = random.Random(seed)
    session = session_with(*SETUP, size=chance.choice((150, 200, 400)), capacity=chance.choice((1, 2, 6, 30)))
    number = lambda: chance.choice(("null", "1", "2", "3"))
    text = lambda: chance.choice(("null", "'x'", "'y'"))
    for key in range(chance.randint(0, 12)):
        session.run(f"insert into t values ({key}, {number()}, {text()})")
    for _ in range(chance.randint(0, 8)):
        session.run(f"insert into u values ({number()}, {text()})")
        fault_of(session, f"insert into w values ({text()}, {chance.randint(0, 4)})")
    session.run("update t set b = b + 1 where a mod 3 = 0")
    session.run("delete from t where a = 5")
    for name in "tuw":
        if chance.random() < 0.4:
            session.run(f"analyze {name}")
    if chance.random() < 0.4:
        session.run("begin")
        session.run("update t set c = 'z' where a < 3")
        session.run("insert into u values (2, 'own')")
    return session


def drawn_options(chance):
    rules = chance.sample(RULES, chance.randint(0, len(RULES)))
    joins = chance.sample(JOINS, chance.randint(0, len(JOINS)))
    return Options(rules, chance.random() < 0.5, chance.random() < 0.7, joins, chance.random() < 0.5,
        chance.choice((0, 1, 2, 3, 10)))


class DrawnQueriesTest(unittest.TestCase):
    def rows_of(self, session, text):
        """Return the rows of a query by going through all rows."""
        plan, _ = translate(session.engine.store.catalog, parse(text))
        transaction = session.transaction or session.engine.begin()
        rows = Evaluator(transaction).plan_rows(plan)
        if session.transaction is None:
            session.engine.rollback(transaction)
        return tuple(rows)

    def test_all_options(self):
        full = 0
        for seed in range(MANY):
            session = drawn_session(seed)
            drawer = QueryDrawer(seed)
            for _ in range(QUERIES):
                text = drawer.query(2)[0]
                wanted = self.rows_of(session, text)
                full += wanted != ()
                for options in (Options(), *[drawn_options(drawer.chance) for _ in range(3)]):
                    session.options = options
                    self.assertEqual(session.run(text).rows, wanted, (seed, text, vars(options)))
            session.engine.check()
        self.assertGreater(full, MANY * QUERIES // 4)

    def test_each_option_alone(self):
        singles = [
            Options(rules=(), reordered=False, indexed=False, joins=(), compiled=False),
            *[Options(rules=(rule,), reordered=False, indexed=False, joins=("nested",)) for rule in RULES],
            *[Options(joins=(join,)) for join in JOINS], Options(reordered=False), Options(indexed=False),
            Options(compiled=False), *[Options(limit=limit) for limit in (1, 2, 7)],
        ]
        for seed in range(MANY, MANY + 15):
            session = drawn_session(seed)
            drawer = QueryDrawer(seed)
            for _ in range(QUERIES):
                text = drawer.query(2)[0]
                wanted = self.rows_of(session, text)
                for options in singles:
                    session.options = options
                    self.assertEqual(session.run(text).rows, wanted, (seed, text, vars(options)))

    def test_drawn_changes(self):
        for seed in range(MANY):
            chance = random.Random(seed)
            drawer = QueryDrawer(seed)
            texts = [f"update t set b = {drawer.value('int', [[('a', 'int'), ('b', 'int'), ('c', 'text')]], 1)}"
                for _ in range(2)] + ["delete from t", "update u set e = 'q'"]
            columns = {"t": [("a", "int"), ("b", "int"), ("c", "text")], "u": [("d", "int"), ("e", "text")]}
            changes = [f"{text} where {drawer.condition([columns[text.split()[1 if text[0] == 'u' else 2]]], 2)}"
                for text in texts]
            found = []
            for options in (Options((), False, False, (), False, 0), Options(), drawn_options(chance)):
                session = drawn_session(seed)
                session.options = options
                found.append([session.run(text).changed
                    for text in changes] + [session.run(f"select * from {name}").rows for name in "tu"])
            self.assertEqual(found[1:], found[:1] * 2, changes)

    def test_faults_are_the_same(self):
        session = drawn_session(0)
        for options in (Options(), Options((), False, False, (), False)):
            session.options = options
            self.assertRaises(KindFault, session.run, "select a from t where a = 'x'")


if __name__ == "__main__":
    unittest.main()
