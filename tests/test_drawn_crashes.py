"""Points 1, 14 and 15: a crash at every step of statements, with drawn losses, opened again and crashed again."""

import random
import unittest

from tablestack.disk import Disk
from tablestack.dump import dump, restore
from tablestack.engine import open_engine
from tablestack.errors import DiskFault, TableError
from tablestack.inspect import damaged_blocks
from tablestack.server import Session, connect
from tests.crashes import drawn_restart
from tests.databases import held, values

SETUP = ("create table t (a text, b text default 'q', primary key (a))", "create table u (n int, s text)")
TEXTS = ("'a'", "'b'", "'c'", "'dd'", "''", "null")
NUMBERS = ("0", "1", "2", "3", "4", "5", "-1")
DEFINITIONS = (
    "create index i on t (b)", "drop index i", "create index j on u (s)", "drop index j",
    "create unique index k on t (b)", "drop index k", "create view v as select a from t", "drop view v",
    "drop table u", "create table u (n int, s text)", "create table u (n int, s text, unique (n))",
    "create table w (x text, primary key (x), foreign key (x) references t (a))", "drop table w",
)
# What an engine does, that is no statement.
CHECKPOINT = "checkpoint"
VACUUM = "vacuum"
FORMS = (
    *["insert into t values ({0}, {1})"] * 5, "insert into t values ({0}, {1}), ({1}, {0})",
    *["insert into u values ({2}, {0})"] * 3, "insert into u select n + 1, s from u",
    *["update t set b = {0} where a = {1}"] * 3,
    "update u set n = n + 1 where n < {2}", "delete from t where a = {0}", "delete from t where a = {0}",
    "delete from u where n = {2}", "insert into w values ({0})", CHECKPOINT, CHECKPOINT, VACUUM, "begin", "begin",
    "commit", "commit", "rollback", "savepoint s", "rollback to s",
)


def drawn_script(chance, many):
    """Return statements, some of which may be refused."""
    found = []
    for _ in range(many):
        form = chance.choice((*FORMS, chance.choice(DEFINITIONS), chance.choice(DEFINITIONS),
            chance.choice(DEFINITIONS)))
        found.append(form.format(chance.choice(TEXTS), chance.choice(TEXTS), chance.choice(NUMBERS)))
    return found


def carry_out(session, text):
    """Carry out a statement; only a crash is told."""
    try:
        if text == CHECKPOINT:
            session.engine.checkpoint()
        elif text == VACUUM:
            session.engine.vacuum()
        else:
            session.run(text)
    except DiskFault:
        raise
    except TableError:
        pass


class CrashTest(unittest.TestCase):
    def states(self, script, size):
        """Return what is held after so many statements, as values."""
        session = connect(Disk(size), 16)
        found = [values(held(session.engine))]
        for text in script:
            carry_out(session, text)
            found.append(values(held(session.engine)))
        session.engine.check()
        return found

    def crashed(self, script, size, capacity, fuse):
        """Return (disk that has crashed, how many statements were answered), None for a disk that did not crash."""
        disk = Disk(size)
        disk.arm(fuse)
        answered = -1
        try:
            session = connect(disk, capacity)
            for answered, text in enumerate(script):
                carry_out(session, text)
        except DiskFault:
            return (disk, max(0, answered))
        return None

    def opened(self, disk, chance):
        """Return the engine of a disk after a crash, and perhaps after more crashes while it is opened."""
        while True:
            disk = drawn_restart(disk, chance)
            disk.arm(chance.choice((None, None, 0, 1, 2, 3, 5, 8)))
            try:
                engine = open_engine(disk, chance.choice((1, 2, 6)))
                disk.arm(None)
                return engine
            except DiskFault:
                pass

    def check_opened(self, engine, allowed):
        found = values(held(engine))
        self.assertIn(found, allowed)
        self.assertEqual(damaged_blocks(engine.pager.disk), ())
        engine.check()
        return found

    def check_going_on(self, engine, chance, size):
        """Check that the database goes on as one does that was made of its dump, and that it survives a crash again."""
        other = restore(dump(engine), Disk(size), 3)
        session = Session(engine)
        self.assertEqual(values(held(other.engine)), values(held(engine)))
        for text in [*drawn_script(chance, 5), "commit"]:
            carry_out(session, text)
            carry_out(other, text)
        self.assertEqual(values(held(engine)), values(held(other.engine)))
        again = self.opened(engine.pager.disk, chance)
        self.check_opened(again, [values(held(engine))])

    def test_every_step(self):
        kinds = {"ahead": 0, "behind": 0}
        for seed in range(14):
            chance = random.Random(seed)
            size = (96, 100, 120, 160, 200, 400, 96)[seed % 7]
            script = [*SETUP, *drawn_script(chance, chance.choice((6, 12)))]
            states = self.states(script, size)
            fuse = 0
            while (found := self.crashed(script, size, 1 + seed % 6, fuse)) is not None:
                disk, answered = found
                engine = self.opened(disk, chance)
                state = self.check_opened(engine, states[answered:answered + 2])
                kinds["ahead" if state == states[answered] else "behind"] += 1
                if chance.random() < 0.4:
                    self.check_going_on(engine, chance, size)
                fuse += 1
        self.assertGreater(min(kinds.values()), 50, kinds)

    def test_drawn_steps_of_longer_scripts(self):
        for seed in range(100, 110):
            chance = random.Random(seed)
            size = chance.choice((96, 130, 200, 400))
            script = [*SETUP, *drawn_script(chance, 40)]
            states = self.states(script, size)
            for _ in range(8):
                found = self.crashed(script, size, chance.randint(1, 6), chance.randint(0, 150))
                if found is not None:
                    engine = self.opened(found[0], chance)
                    self.check_opened(engine, states[found[1]:found[1] + 2])
                    self.check_going_on(engine, chance, size)

    def test_the_statement_under_way_is_whole_or_not_there(self):
        """Each step of a statement of several rows in several trees, with each part of the log that may be kept."""
        setup = ("create table t (a int, b int, primary key (a), unique (b))", "insert into t values (1, 1)")
        fuse = 0
        found = set()
        while True:
            disk = Disk(200)
            session = connect(disk, 2)
            for text in setup:
                session.run(text)
            disk.arm(fuse)
            try:
                session.run("insert into t select a + 1, b + 1 from t")
                break
            except DiskFault:
                for kept in range(0, len(disk.log_tail) + 1, 50):
                    rows = open_engine(disk.restarted((2,) * 9, kept)).begin().table_rows("t")
                    self.assertIn(rows, ([(1, 1)], [(1, 1), (2, 2)]))
                    found.add(len(rows))
                found.add(len(open_engine(disk.restarted((), len(disk.log_tail))).begin().table_rows("t")))
            fuse += 1
        self.assertEqual(found, {1, 2})


if __name__ == "__main__":
    unittest.main()
