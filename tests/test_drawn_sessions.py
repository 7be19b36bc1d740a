"""Points 1 and 18: drawn orders of statements against one transaction after another, and a model of conflicts."""

import random
import unittest

from tablestack.physical import JOINS
from tablestack.rewrite import RULES
from tablestack.schedule import Schedule, committed, statement_word
from tablestack.server import Options
from tests.databases import session_with

MANY = 120
SETUP = (
    "create table t (a int, b int, primary key (a))",
    "create table u (c int, d int, unique (d), foreign key (c) references t (a))", "create table w (e int)",
    "create index t_b on t (b)",
    "create view v as select a, b from t where b > 1", "insert into t values (1, 1), (2, 2), (3, 3)",
    "insert into u values (1, 1)", "insert into w values (1), (2)",
)
# Statements, the tables that they read, and the one that they may change.
STATEMENTS = (
    ("insert into t values ({0}, {1})", "tu", "t"), ("update t set b = b + 1 where a = {0}", "tu", "t"),
    ("update t set a = a + 1 where b > {0}", "tu", "t"), ("delete from t where a = {0}", "tu", "t"),
    ("insert into u values ({0}, {1})", "tu", "u"), ("delete from u where d = {0}", "tu", "u"),
    ("update u set c = {0}", "tu", "u"), ("insert into w select a from v where a > {0}", "tw", "w"),
    ("delete from w where e = {0}", "w", "w"), ("insert into w values ({0})", "w", "w"),
    ("update w set e = e", "w", "w"), ("update w set e = {0} where e in (select d from u)", "uw", "w"),
    ("select * from t", "t", ""), ("select * from v where a > {0}", "t", ""), ("select count(*) from w", "w", ""),
    ("select * from u where d = {0}", "u", ""), ("select * from t where b = {0}", "t", ""),
    ("select w.e, t.b from w left join t on w.e = t.a", "tw", ""), ("select zzz from u", "u", ""),
    ("insert into w values ('x')", "w", ""), ("analyze t", "t", ""),
)


def drawn_script(chance):
    """Return statements of a session, perhaps in transactions with savepoints."""
    texts = []
    for _ in range(chance.randint(1, 4)):
        inner = [drawn_statement(chance) for _ in range(chance.randint(1, 4))]
        if chance.random() < 0.25:
            texts.extend(inner[:1])
        else:
            for place in range(len(inner), 0, -1):
                if chance.random() < 0.25:
                    inner.insert(place, chance.choice(("savepoint s", "rollback to s", "release s")))
            texts.extend(["begin", *inner, chance.choice(("commit", "commit", "commit", "rollback"))])
    return texts


def drawn_statement(chance):
    numbers = [chance.choice(("1", "2", "3", "4", "5", "null")) for _ in range(2)]
    return chance.choice(STATEMENTS)[0].format(*numbers)


def form_of(text):
    """Return (tables read, table changed) of a statement."""
    for form, reads, changes in STATEMENTS:
        pieces = form.replace("{1}", "{0}").split("{0}")
        if text.startswith(pieces[0]) and all(piece in text for piece in pieces):
            return (set(reads), changes)
    raise ValueError(text)


class Model:
    """What conflicts are to be expected: when each table changed last, and of each session what it read and changed."""

    def __init__(self):
        self.time = 0
        self.changed = {}
        self.opened = {}

    def event(self, event):
        """Take in an event; return the fault that a commit is to have, None where it does not matter."""
        word = statement_word(event.text)
        session = self.opened.get(event.number)
        if word == "begin" and event.fault == "":
            self.opened[event.number] = {"time": self.time, "read": set(), "changes": [], "saved": []}
        elif session is None:
            if event.fault == "" and event.answer.changed > 0:
                self.commit({form_of(event.text)[1]})
        elif word == "rollback":
            del self.opened[event.number]
        elif word == "savepoint":
            session["saved"].append(list(session["changes"]))
        elif word in ("rollback to", "release") and session["saved"] != []:
            if word == "release":
                session["saved"].pop()
            else:
                session["changes"] = list(session["saved"][-1])
        elif word == "commit":
            return self.end(self.opened.pop(event.number))
        elif word not in ("begin", "rollback to", "release"):
            reads, changes = form_of(event.text)
            session["read"] |= reads
            if event.fault == "" and event.answer.changed > 0:
                session["changes"].append(changes)
        return None

    def end(self, session):
        if session["changes"] == []:
            return ""
        if any(self.changed.get(name, 0) > session["time"] for name in session["read"]):
            return "conflict"
        self.commit(set(session["changes"]))
        return ""

    def commit(self, names):
        self.time += 1
        for name in names:
            self.changed[name] = self.time


class DrawnSessionsTest(unittest.TestCase):
    def test_one_transaction_after_another(self):
        kinds = {"conflict": 0, "fault": 0, "": 0}
        for seed in range(MANY):
            chance = random.Random(seed)
            base = session_with(*SETUP, size=chance.choice((200, 400)), capacity=chance.choice((1, 3, 8)))
            scripts = [drawn_script(chance) for _ in range(chance.randint(2, 4))]
            options = [Options(chance.sample(RULES, 3), chance.random() < 0.5, chance.random() < 0.7,
                chance.sample(JOINS, 2), chance.random() < 0.5, chance.choice((0, 1, 3))) for _ in scripts]
            schedule = Schedule(base.engine, scripts, options)
            events = schedule.run([chance.randrange(9) for _ in range(chance.randint(0, 60))])
            for event in events:
                kinds[event.fault] += 1
            self.assertEqual(base.engine.active, [])
            self.check_answers(base, events, self.checked_writers(events))
            base.engine.vacuum()
            base.engine.check()
        self.assertGreater(min(kinds.values()), 50, kinds)

    def checked_writers(self, events):
        """Check which commits are refused; return the places of those that changed rows."""
        model = Model()
        places = []
        for place, event in enumerate(events):
            before = model.time
            wanted = model.event(event)
            if wanted is not None:
                self.assertEqual(event.fault, wanted, event.shown())
            if model.time > before:
                places.append(place)
        return places

    def check_answers(self, base, events, writers):
        """Carry out what committed alone: what only read at its begin, what changed rows at its end."""
        done = committed(events)
        times = [one.last if one.last in writers else one.first - 0.5 for one in done]
        twin = session_with(*SETUP)
        for _, one in sorted(zip(times, done), key=lambda pair: pair[0]):
            for event in one.events:
                self.assertEqual(twin.run(event.text).shown(), event.answer.shown(), event.text)
        for name in "tuw":
            self.assertEqual(twin.run(f"select * from {name}").rows, base.run(f"select * from {name}").rows)


if __name__ == "__main__":
    unittest.main()
