"""Server: sessions that carry out statements over an engine."""

from tablestack.changing import delete_rows, insert_rows, update_rows
from tablestack.defining import DEFINITIONS
from tablestack.engine import open_engine
from tablestack.errors import ConflictFault, StateFault, TableError
from tablestack.explain import explain_lines
from tablestack.naming import tables_read
from tablestack.order import reorder
from tablestack.parser import parse, parse_script
from tablestack.physical import JOINS, Chooser, run_plan
from tablestack.plans import tables_of
from tablestack.rewrite import RULES, rewrite
from tablestack.statistics import summarize_rows
from tablestack.translate import translate


class Options:
    """Which rules rewrite plans, whether joins are reordered and indexes used, and how plans are carried out.

    Joins may be nested, hashed or merged, conditions compiled, and rows sorted in runs of a limit, 0 for all at once.
    """

    def __init__(self, rules=RULES, reordered=True, indexed=True, joins=JOINS, compiled=True, limit=0):
        self.rules = tuple(rules)
        self.reordered = reordered
        self.indexed = indexed
        self.joins = tuple(joins)
        self.compiled = compiled
        self.limit = limit
        if any(name not in RULES for name in self.rules) or any(name not in JOINS for name in self.joins):
            raise StateFault("there is no such rule or way to join")
        if limit < 0:
            raise StateFault("a limit is negative")


class Answer:
    """What a statement answers: its word, the names of columns, rows, and how many rows it changed."""

    def __init__(self, word, names, rows, changed):
        self.word = word
        self.names = tuple(names)
        self.rows = tuple(rows)
        self.changed = changed

    def shown(self):
        """Return (word, names, rows, changed)."""
        return (self.word, self.names, self.rows, self.changed)


class Session:
    """A session: the engine, how its plans are made, and its open transaction.

    A savepoint is its name and the transaction's own rows as they were.
    """

    def __init__(self, engine, options=None):
        self.engine = engine
        self.options = Options() if options is None else options
        self.transaction = None
        self.savepoints = []

    def run(self, text):
        """Carry out the statement of a text and return its answer; raise a TableError, which changes nothing.

        Outside a transaction every statement is one by itself; a ConflictFault ends the transaction.
        """
        return self.answered(parse(text))

    def run_script(self, text):
        """Carry out the statements of a text, one after another, and return their answers."""
        return [self.answered(statement) for statement in parse_script(text)]

    def answered(self, statement):
        """Carry out a statement and return its answer."""
        word = statement[0]
        if word in CONTROLS:
            control = CONTROLS[word]
            control(self, statement)
        elif word in DEFINITIONS:
            self.define(statement)
        elif self.transaction is not None:
            return self.within(statement, self.transaction)
        else:
            return self.by_itself(statement)
        return Answer(word, (), (), 0)

    def by_itself(self, statement):
        """Carry out a statement as a transaction by itself and return its answer."""
        transaction = self.engine.begin()
        try:
            answer = self.within(statement, transaction)
            self.engine.commit(transaction)
        except TableError:
            if transaction in self.engine.active:
                self.engine.rollback(transaction)
            raise
        return answer

    def define(self, statement):
        """Carry out a statement that changes the catalog; raise StateFault while any transaction is open."""
        catalog = self.engine.store.catalog
        if self.transaction is not None:
            self.note_tables(statement, self.transaction)
        if self.engine.active != []:
            raise StateFault("a transaction is open")
        prepare = DEFINITIONS[statement[0]]
        self.engine.define(prepare(catalog, statement))

    def within(self, statement, transaction):
        """Carry out a query or a change of rows within a transaction, which reads all tables that it names.

        Return its answer.
        """
        self.note_tables(statement, transaction)
        word = statement[0]
        if word in ("update", "delete"):
            return self.change(statement, transaction)
        if word == "insert":
            return Answer(word, (), (), insert_rows(self, statement, transaction))
        if word == "analyze":
            return self.analyze(statement, transaction)
        query = statement[1] if word == "explain" else statement
        plan, columns = translate(self.engine.store.catalog, query)
        if word == "explain":
            lines = explain_lines(self.physical_plan(plan, transaction))
            return Answer(word, ("plan",), [(line,) for line in lines], 0)
        return Answer("select", [name for name, kind in columns], self.plan_rows(plan, transaction), 0)

    def note_tables(self, statement, transaction):
        """Note that a transaction reads all tables that a statement names, whatever comes of it."""
        for name in tables_read(self.engine.store.catalog, statement):
            transaction.read[name] = True

    def query_rows(self, query, transaction):
        """Return the rows of a query within a transaction."""
        plan, _ = translate(self.engine.store.catalog, query)
        return self.plan_rows(plan, transaction)

    def physical_plan(self, plan, transaction):
        """Return the physical plan of a plan by the session's options."""
        counts = {name: transaction.row_count(name) for name in tables_of(plan)}
        plan = rewrite(plan, self.options.rules)
        if self.options.reordered:
            plan = reorder(plan, counts)
        engine = self.engine
        chooser = Chooser(engine.store.catalog, counts, self.options.indexed, self.options.joins, engine.summaries)
        return chooser.chosen(plan)

    def plan_rows(self, plan, transaction):
        """Return the rows of a plan, carried out by the session's options."""
        chosen = self.physical_plan(plan, transaction)
        return run_plan(chosen, transaction, self.options.compiled, self.options.limit)

    def change(self, statement, transaction):
        """Update or delete the rows of a table that meet a condition; return the answer."""
        if statement[0] == "update":
            return Answer("update", (), (), update_rows(self, statement, transaction))
        return Answer("delete", (), (), delete_rows(self, statement, transaction))

    def analyze(self, statement, transaction):
        """Keep the summaries of a table's columns as the transaction sees them; return the answer."""
        table = self.engine.store.catalog.table_named(statement[1])
        rows = transaction.table_rows(table.name)
        self.engine.summaries[table.name] = summarize_rows(rows, len(table.columns))
        return Answer("analyze", (), (), 0)

    def open_transaction(self):
        """Return the open transaction; raise StateFault outside one."""
        if self.transaction is None:
            raise StateFault("no transaction is open")
        return self.transaction

    def ended(self):
        """Forget the transaction, which has ended."""
        self.transaction = None
        self.savepoints = []

    def savepoint_place(self, name):
        """Return the place of the last savepoint of a name; raise StateFault for an unknown one."""
        places = [place for place, savepoint in enumerate(self.savepoints) if savepoint[0] == name]
        if places == []:
            raise StateFault(f"there is no savepoint {name}")
        return places[-1]


def carry_begin(session, _):
    """Begin a session's transaction; raise StateFault within one."""
    if session.transaction is not None:
        raise StateFault("a transaction is open already")
    session.transaction = session.engine.begin()


def carry_commit(session, _):
    """Commit a session's transaction; raise ConflictFault, which ends it."""
    transaction = session.open_transaction()
    try:
        session.engine.commit(transaction)
    except ConflictFault:
        session.ended()
        raise
    session.ended()


def carry_rollback(session, _):
    """End a session's transaction without its changes."""
    session.engine.rollback(session.open_transaction())
    session.ended()


def carry_savepoint(session, statement):
    """Keep the own rows of a session's transaction under a name."""
    session.savepoints.append((statement[1], session.open_transaction().saved()))


def carry_rollback_to(session, statement):
    """Bring back the own rows of a savepoint, which stays; later ones are dropped."""
    transaction = session.open_transaction()
    place = session.savepoint_place(statement[1])
    transaction.bring_back(session.savepoints[place][1])
    session.savepoints = session.savepoints[:place + 1]


def carry_release(session, statement):
    """Drop a savepoint and later ones."""
    session.open_transaction()
    session.savepoints = session.savepoints[:session.savepoint_place(statement[1])]


CONTROLS = {
    "begin": carry_begin, "commit": carry_commit, "rollback": carry_rollback, "savepoint": carry_savepoint,
    "rollback_to": carry_rollback_to, "release": carry_release,
}


def connect(disk, capacity=16, options=None):
    """Return a session over a disk, new, old or after a crash."""
    return Session(open_engine(disk, capacity), options)
