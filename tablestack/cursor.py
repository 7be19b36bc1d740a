"""Cursors: a query's rows handed out a few at a time, as they were when it was opened."""

from tablestack.errors import StateFault
from tablestack.parser import parse


class Cursor:
    """The names and rows of a query, and how many were handed out."""

    def __init__(self, answer):
        self.names = answer.names
        self.rows = answer.rows
        self.place = 0
        self.closed = False

    def fetch(self, many):
        """Return the next rows, at most so many; raise StateFault for a closed cursor or a negative number."""
        if self.closed or many < 0:
            raise StateFault("a cursor is closed, or a number of rows is negative")
        start = self.place
        self.place = min(len(self.rows), start + many)
        return self.rows[start:self.place]

    def skip(self, many):
        """Move so many rows on, or back for a negative number, within the rows; return the place."""
        if self.closed:
            raise StateFault("a cursor is closed")
        self.place = max(0, min(len(self.rows), self.place + many))
        return self.place

    def rest(self):
        """Return how many rows were not handed out."""
        return len(self.rows) - self.place

    def close(self):
        """Close the cursor."""
        self.closed = True


def open_cursor(session, text):
    """Return a cursor over the rows of a query; raise StateFault for another statement, which is not carried out."""
    statement = parse(text)
    if statement[0] != "query":
        raise StateFault("only a query has a cursor")
    return Cursor(session.answered(statement))


def fetch_all(cursor, many):
    """Return the pieces in which a cursor's rows are handed out so many at a time; raise StateFault below 1."""
    if many < 1:
        raise StateFault("a piece has at least one row")
    pieces = []
    piece = cursor.fetch(many)
    while piece != ():
        pieces.append(piece)
        piece = cursor.fetch(many)
    return pieces
