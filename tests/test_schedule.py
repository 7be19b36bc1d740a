"""Point 21 and schedules: several sessions' statements in a drawn order, what happened, and what committed."""

import unittest

from tablestack.errors import StateFault
from tablestack.schedule import Event, Schedule, committed, statement_word
from tablestack.server import Answer, Options
from tests.databases import session_with

SCRIPTS = (
    ("begin", "insert into t values (1)", "commit"), ("select * from t", "begin", "insert into t values (2)",
        "select z from t", "commit", "delete from t"),
)


def schedule_of(*scripts, options=None):
    return Schedule(session_with("create table t (a int)").engine, scripts, options)


def told(events):
    return [(event.number, event.text, event.fault) for event in events]


class ScheduleTest(unittest.TestCase):
    def test_events(self):
        answer = Answer("insert", (), (), 1)
        self.assertEqual(Event(1, "insert", answer, "").shown(), (1, "insert", ("insert", (), (), 1), ""))
        self.assertEqual(Event(0, "selec", None, "fault").shown(), (0, "selec", None, "fault"))

    def test_steps(self):
        schedule = schedule_of(*SCRIPTS)
        self.assertEqual((schedule.ready_sessions(), schedule.events), ([0, 1], []))
        for number, shown in (
            (1, (1, "select * from t", ("select", ("a",), (), 0), "")), (0, (0, "begin", ("begin", (), (), 0), "")),
            (0, (0, "insert into t values (1)", ("insert", (), (), 1), "")),
            (1, (1, "begin", ("begin", (), (), 0), "")), (1, (1, "insert into t values (2)", ("insert", (), (), 1),
                "")), (0, (0, "commit", ("commit", (), (), 0), "")),
            (1, (1, "select z from t", None, "fault")), (1, (1, "commit", None, "conflict")),
        ):
            event = schedule.step(number)
            self.assertIsInstance(event, Event)
            self.assertEqual((event.shown(), schedule.events[-1]), (shown, event))
        for number in (0, -1, 2, 99):
            self.assertRaises(StateFault, schedule.step, number)
        self.assertEqual((schedule.ready_sessions(), len(schedule.events)), ([1], 8))
        schedule.step(1)
        self.assertRaises(StateFault, schedule.step, 1)
        self.assertEqual(schedule.ready_sessions(), [])

    def test_choices(self):
        scripts = [[f"select {number}{place}" for place in range(2)] for number in range(3)]
        for choices, order in (
            ((), [0, 0, 1, 1, 2, 2]), ((2,), [2, 0, 0, 1, 1, 2]), ((1, 1, 1), [1, 1, 2, 0, 0, 2]),
            ((2, 1, 0, 2, 1, 0), [2, 1, 0, 2, 1, 0]), ((0, 0, 0, 0, 0, 0, 5, 5), [0, 0, 1, 1, 2, 2]),
            ((4, 3), [1, 0, 0, 1, 2, 2]), ([2, 2], [2, 2, 0, 0, 1, 1]),
        ):
            schedule = schedule_of(*scripts)
            events = schedule.run(choices)
            self.assertEqual(([event.number for event in events], schedule.ready_sessions(), schedule.events),
                (order, [], events), choices)
        self.assertEqual((schedule_of().run((1, 2)), schedule_of([], []).run(())), ([], []))

    def test_a_run_after_steps(self):
        schedule = schedule_of(["select 1", "select 2"], ["select 3"])
        schedule.step(1)
        self.assertEqual([event.text for event in schedule.run(())], ["select 3", "select 1", "select 2"])

    def test_scripts_are_not_used_up(self):
        scripts = [["select 1"], ["select 2"]]
        schedule_of(*scripts).run(())
        self.assertEqual(scripts, [["select 1"], ["select 2"]])

    def test_options(self):
        schedule = schedule_of(["explain select a from t where a = 1"], ["explain select a from t where 1 = 1"],
            options=[Options(rules=()), None])
        lines = [event.answer.rows for event in schedule.run(())]
        self.assertEqual((lines[0][2], lines[1][1]), (("    filter 1 = 1",), ("  scan t",)))


class WordTest(unittest.TestCase):
    def test_first_words(self):
        for text, word in (
            ("begin", "begin"), ("SELECT * from t", "select"), (" -- one\n insert into t values (1)", "insert"),
            ("rollback", "rollback"), ("rollback to s", "rollback to"), ("ROLLBACK  -- x\n To s", "rollback to"),
            ("rollback;", "rollback"), ("commit ;", "commit"), ("create table t (a int)", "create"),
            ("drop view v", "drop"), ("savepoint to", "savepoint"), ("release s", "release"),
            ("(select 1) union select 2", "select"),
            ("update t set a = 1", "update"), ("", ""), ("analyze t", "analyze"),
        ):
            self.assertEqual(statement_word(text), word, text)


class CommittedTest(unittest.TestCase):
    def done(self, *scripts, choices=()):
        events = schedule_of(*scripts).run(choices)
        for one in committed(events):
            self.assertTrue(all(event.number == one.number and event.fault == "" for event in one.events))
        return [(one.number, one.first, one.last, [event.text for event in one.events]) for one in committed(events)]

    def test_statements_by_themselves(self):
        self.assertEqual(self.done(["select 1", "selec", "insert into t values (1)", "select z from t", "commit",
            "rollback", "savepoint s", "create index i on t (a)"]), [
            (0, 0, 0, ["select 1"]), (0, 2, 2, ["insert into t values (1)"]), (0, 7, 7, ["create index i on t (a)"])])

    def test_transactions(self):
        one = ["begin", "insert into t values (1)", "select z from t", "begin", "savepoint s", "delete from t",
            "rollback to s", "release s", "commit", "select 1"]
        self.assertEqual(self.done(one), [(0, 0, 8, ["begin", *one[1:2], *one[4:9]]), (0, 9, 9, ["select 1"])])
        self.assertEqual(self.done(["begin", "insert into t values (1)", "rollback", "select 1"], ["begin", "commit"]),
            [(0, 3, 3, ["select 1"]), (1, 4, 5, ["begin", "commit"])])
        self.assertEqual(self.done(["begin", "insert into t values (1)"], ["begin"]), [])

    def test_in_the_order_of_their_ends(self):
        self.assertEqual(self.done(["begin", "select a from t", "commit"],
            ["select 1", "begin", "insert into t values (1)", "commit", "select 2"], choices=(0, 1, 0, 1, 1, 1, 0)), [
            (1, 1, 1, ["select 1"]), (1, 3, 5, ["begin", "insert into t values (1)", "commit"]),
            (0, 0, 6, ["begin", "select a from t", "commit"]), (1, 7, 7, ["select 2"])])

    def test_conflicts(self):
        one = ["begin", "insert into t values (1)", "commit", "select 1"]
        self.assertEqual(self.done(one, ["insert into t values (2)"], choices=(0, 0, 1)),
            [(1, 2, 2, ["insert into t values (2)"]), (0, 4, 4, ["select 1"])])

    def test_no_events(self):
        self.assertEqual(committed([]), [])


if __name__ == "__main__":
    unittest.main()
