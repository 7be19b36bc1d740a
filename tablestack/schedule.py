"""Schedules: several sessions' statements carried out in a drawn order, and a record of what happened."""

from tablestack.errors import ConflictFault, StateFault, TableError
from tablestack.lexer import DIGITS, LETTERS, gap_end, run_end
from tablestack.server import Session

CONFLICT = "conflict"
FAULT = "fault"


class Event:
    """What a session did: its number, the statement, the answer, or the fault's class as a word.

    The answer is None if there was a fault; the fault is "" if there was none, "conflict" or "fault".
    """

    def __init__(self, number, text, answer, fault):
        self.number = number
        self.text = text
        self.answer = answer
        self.fault = fault

    def shown(self):
        """Return (number, text, shown answer or None, fault)."""
        answer = None if self.answer is None else self.answer.shown()
        return (self.number, self.text, answer, self.fault)


class Schedule:
    """Sessions over one engine, their statements that are left, and what happened."""

    def __init__(self, engine, scripts, options=None):
        chosen = [None] * len(scripts) if options is None else options
        self.sessions = [Session(engine, one) for one in chosen]
        self.left = [list(script) for script in scripts]
        self.events = []

    def step(self, number):
        """Carry out the next statement of a session and return the event; raise StateFault if none is left."""
        if not 0 <= number < len(self.left) or self.left[number] == []:
            raise StateFault("the session has no statement left")
        text = self.left[number].pop(0)
        event = carried_event(self.sessions[number], number, text)
        self.events.append(event)
        return event

    def ready_sessions(self):
        """Return the numbers of the sessions that have statements left."""
        return [number for number, texts in enumerate(self.left) if texts != []]

    def run(self, choices):
        """Carry out all statements; a choice tells which waiting session is next, the first one after all choices."""
        many = 0
        ready = self.ready_sessions()
        while ready != []:
            choice = choices[many] if many < len(choices) else 0
            self.step(ready[choice % len(ready)])
            many += 1
            ready = self.ready_sessions()
        return self.events


def carried_event(session, number, text):
    """Carry out a session's statement and return the event."""
    try:
        return Event(number, text, session.run(text), "")
    except ConflictFault:
        return Event(number, text, None, CONFLICT)
    except TableError:
        return Event(number, text, None, FAULT)


class Done:
    """A transaction that committed: its session, the places of its begin and end among events, and its own events."""

    def __init__(self, number, first, last, events):
        self.number = number
        self.first = first
        self.last = last
        self.events = tuple(events)


def statement_word(text):
    """Return the first word of a statement, "rollback to" for a rollback to a savepoint."""
    first, place = next_word(text, 0)
    second, _ = next_word(text, place)
    if first == "rollback" and second == "to":
        return "rollback to"
    return first


def next_word(text, place):
    """Return (word in small letters, place after it) of the next word from a place on, behind opening brackets."""
    start = gap_end(text, place)
    while start < len(text) and text[start] == "(":
        start = gap_end(text, start + 1)
    end = run_end(text, start, LETTERS + DIGITS)
    return (text[start:end].lower(), end)


def committed(events):
    """Return the transactions that committed, in the order of their ends; a statement outside one is one by itself."""
    found = []
    begun = {}
    for place, event in enumerate(events):
        word = statement_word(event.text)
        if event.fault == CONFLICT:
            begun.pop(event.number, None)
        elif event.fault == "":
            if word == "begin":
                begun[event.number] = place
            elif event.number not in begun:
                found.append(Done(event.number, place, place, (event,)))
            elif word == "commit":
                found.append(done_between(events, begun.pop(event.number), place))
            elif word == "rollback":
                begun.pop(event.number)
    return found


def done_between(events, first, last):
    """Return the transaction that a session began and ended at two places among events."""
    number = events[last].number
    own = [event for event in events[first:last + 1] if event.number == number and event.fault == ""]
    return Done(number, first, last, own)
