"""Console: statements entered as lines, answered as lines of text; prepared statements with parameters."""

from tablestack.errors import (
    ConflictFault, ConstraintFault, KindFault, NameFault, PlanFault, StateFault, TableError, TextError,
)
from tablestack.lexer import COMMENT, LETTERS, QUOTE, gap_end, tokenize, word_token
from tablestack.parser import parse
from tablestack.printer import statement_text
from tablestack.values import value_text

GAP = "  "
PARAMETER = "?"
MOST_PARAMETERS = 20
CHANGES = ("insert", "update", "delete")


def table_lines(names, rows):
    """Return lines of a table: names, a rule and rows, in columns as wide as their widest cell, two blanks between."""
    lines = [list(names), *[[cell_text(value) for value in row] for row in rows]]
    widths = [max([len(line[place]) for line in lines]) for place in range(len(names))]
    lines.insert(1, ["-" * width for width in widths])
    return [padded_line(line, widths) for line in lines]


def cell_text(value):
    """Return a value as a cell tells it: NULL as nothing."""
    return "" if value is None else str(value)


def padded_line(cells, widths):
    """Return cells as a line, in columns of some widths, without blanks at its end."""
    return GAP.join([cell.ljust(width) for cell, width in zip(cells, widths)]).rstrip(" ")


def answer_lines(answer):
    """Return the lines that tell an answer."""
    if answer.word == "select":
        many = len(answer.rows)
        return [*table_lines(answer.names, answer.rows), "(1 row)" if many == 1 else f"({many} rows)"]
    if answer.word == "explain":
        return [row[0] for row in answer.rows]
    if answer.word in CHANGES:
        return [f"{answer.word} {answer.changed}"]
    return [answer.word.replace("_", " ")]


def fault_word(fault):
    """Return the word by which a fault is told."""
    if isinstance(fault, TextError):
        return "text"
    if isinstance(fault, NameFault):
        return "name"
    if isinstance(fault, KindFault):
        return "kind"
    if isinstance(fault, ConstraintFault):
        return "constraint"
    if isinstance(fault, ConflictFault):
        return "conflict"
    if isinstance(fault, PlanFault):
        return "plan"
    if isinstance(fault, StateFault):
        return "state"
    return "server"


class Console:
    """A session and its prepared statements: (text, places of its parameters) under each name."""

    def __init__(self, session):
        self.session = session
        self.prepared = {}

    def enter(self, line):
        """Carry out a line and return its lines: "prepare name as ..", "execute name (..)", or a statement.

        An invalid line answers "error: " and a word, and changes nothing.
        """
        try:
            word, place = word_at(line, 0)
            if word == "prepare":
                return self.prepare(line, place)
            if word == "execute":
                return self.execute(line, place)
            return answer_lines(self.session.run(line))
        except TableError as fault:
            return [f"error: {fault_word(fault)}"]

    def prepare(self, line, place):
        """Keep a statement whose name stands at a place; return the line that tells it."""
        name, place = name_at(line, place)
        word, place = word_at(line, place)
        if word != "as":
            raise TextError("as is missing behind a prepared statement's name")
        text = line[place:]
        spots = parameter_places(text)
        parse(filled(text, spots, [value_text(None)] * len(spots)))
        self.prepared[name] = (text, spots)
        return [f"prepared {name} {len(spots)}"]

    def execute(self, line, place):
        """Carry out the prepared statement whose name stands at a place; return its lines."""
        name, place = name_at(line, place)
        if name not in self.prepared:
            raise NameFault(f"no statement was prepared as {name}")
        text, spots = self.prepared[name]
        values = literal_texts(line[place:])
        if len(values) != len(spots):
            raise TextError(f"{name} needs another number of values")
        return answer_lines(self.session.run(filled(text, spots, values)))


def word_at(text, place):
    """Return (word, place after it) of the name or keyword that is next from a place on, "" if it is none."""
    start = gap_end(text, place)
    if start == len(text) or text[start] not in LETTERS:
        return ("", start)
    token, end = word_token(text, start)
    return (token.value, end)


def name_at(text, place):
    """Return (name, place after it) of the name that is next from a place on; raise TextError if it is none."""
    start = gap_end(text, place)
    if start == len(text) or text[start] not in LETTERS:
        raise TextError("a name is missing")
    token, end = word_token(text, start)
    if token.word != "name":
        raise TextError("a name is missing")
    return (token.value, end)


def parameter_places(text):
    """Return the places of the question marks outside quotes and comments; raise TextError for more than 20."""
    found = []
    place = 0
    while place < len(text):
        if text[place] == PARAMETER:
            found.append(place)
        place = quote_end(text, place)
    if len(found) > MOST_PARAMETERS:
        raise TextError("there are too many parameters")
    return tuple(found)


def quote_end(text, place):
    """Return the place behind a character, or behind the text in quotes or the comment that begins with it."""
    if text[place] == QUOTE:
        end = text.find(QUOTE, place + 1)
        return len(text) if end < 0 else end + 1
    if text.startswith(COMMENT, place):
        return gap_end(text, place)
    return place + 1


def filled(text, spots, values):
    """Return a text with values in brackets in the places of its question marks."""
    parts = []
    start = 0
    for spot, value in zip(spots, values):
        parts.append(f"{text[start:spot]}({value})")
        start = spot + 1
    return "".join([*parts, text[start:]])


def literal_texts(text):
    """Return the texts of the literals in brackets, separated by commas; raise TextError for other texts."""
    tokens = tokenize(text)[:-1]
    if tokens == []:
        return []
    if len(tokens) < 3 or tokens[0].word != "(" or tokens[-1].word != ")":
        raise TextError("values stand in brackets")
    found = []
    place = 1
    while place < len(tokens) - 1:
        if found != []:
            if tokens[place].word != ",":
                raise TextError("a comma is missing")
            place += 1
        value, place = literal_at(tokens, place)
        found.append(value)
    return found


def literal_at(tokens, place):
    """Return (text, place after it) of the literal at a place among tokens; raise TextError if there is none."""
    token = tokens[place]
    if token.word in ("null", "int", "quoted"):
        return (value_text(None if token.word == "null" else token.value), place + 1)
    if token.word == "-" and tokens[place + 1].word == "int":
        return (value_text(0 - tokens[place + 1].value), place + 2)
    raise TextError("a literal is missing")


def normal_text(text):
    """Return the text of a statement as the printer tells it; raise TextError for an invalid one."""
    return statement_text(parse(text))
