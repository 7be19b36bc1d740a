"""Values: NULL (None), integers of at most 9223372036854775807 either way, and texts, and three-valued logic."""

from tablestack.errors import KindFault

HIGHEST = 9223372036854775807
AGGREGATES = ("count", "sum", "min", "max")
ANY_SIGN = "_"
ANY_TEXT = "*"


def kind_of(value):
    """Return "null", "int" or "text"."""
    if value is None:
        return "null"
    if isinstance(value, str):
        return "text"
    return "int"


def in_range(number):
    """Return a number, NULL if it is too large or too small."""
    if 0 - HIGHEST <= number <= HIGHEST:
        return number
    return None


def rank(value):
    """Return a pair that orders values: NULL first, then integers, then texts."""
    if value is None:
        return (0, 0)
    if isinstance(value, str):
        return (2, value)
    return (1, value)


def row_rank(row):
    """Return the ranks of a row's values."""
    return tuple([rank(value) for value in row])


def same_kind(one, other):
    """Raise KindFault if two values are neither NULL nor of one kind."""
    if one is not None and other is not None and kind_of(one) != kind_of(other):
        raise KindFault("an integer and a text do not fit")


def compare(sign, one, other):
    """Return True, False, or None if a value is NULL; raise KindFault for an integer and a text."""
    same_kind(one, other)
    if one is None or other is None:
        return None
    if sign == "=":
        return one == other
    if sign == "<>":
        return one != other
    if sign == "<":
        return one < other
    if sign == "<=":
        return one <= other
    if sign == ">":
        return one > other
    return one >= other


def arithmetic(sign, one, other):
    """Return the result of + - * / mod; NULL for NULL, by zero, or out of range; raise KindFault for texts."""
    for value in (one, other):
        if kind_of(value) == "text":
            raise KindFault("a text is no number")
    if one is None or other is None:
        return None
    if sign == "+":
        return in_range(one + other)
    if sign == "-":
        return in_range(one - other)
    if sign == "*":
        return in_range(one * other)
    if other == 0:
        return None
    if sign == "/":
        return in_range(one // other)
    return one % other


def concat(one, other):
    """Return two texts joined, NULL if one is NULL; raise KindFault for integers."""
    for value in (one, other):
        if kind_of(value) == "int":
            raise KindFault("a number is no text")
    if one is None or other is None:
        return None
    return one + other


def both(one, other):
    """Return the three-valued "and" of two truths."""
    if one is False or other is False:
        return False
    if one is None or other is None:
        return None
    return True


def either(one, other):
    """Return the three-valued "or" of two truths."""
    if one is True or other is True:
        return True
    if one is None or other is None:
        return None
    return False


def negated(truth):
    """Return the three-valued "not" of a truth."""
    if truth is None:
        return None
    return not truth


def like(text, pattern):
    """Return whether a text matches a pattern in which "_" is any character and "*" any text; None for NULL."""
    for value in (text, pattern):
        if kind_of(value) == "int":
            raise KindFault("a number is no text")
    if text is None or pattern is None:
        return None
    states = closed([0], pattern)
    for sign in text:
        states = closed(stepped(states, sign, pattern), pattern)
    return len(pattern) in states


def closed(states, pattern):
    """Return places in a pattern and those after stars at them, in ascending order."""
    found = {}
    for state in states:
        place = state
        found[place] = True
        while place < len(pattern) and pattern[place] == ANY_TEXT:
            place += 1
            found[place] = True
    return sorted(found)


def stepped(states, sign, pattern):
    """Return the places in a pattern after one character."""
    found = {}
    for place in states:
        if place < len(pattern):
            if pattern[place] == ANY_TEXT:
                found[place] = True
            elif pattern[place] in (ANY_SIGN, sign):
                found[place + 1] = True
    return sorted(found)


def value_text(value):
    """Return a value as it is written in a statement."""
    if value is None:
        return "null"
    if isinstance(value, str):
        return quoted(value)
    return str(value)


def quoted(text):
    """Return a text in quotes, quotes within it doubled."""
    return "'" + text.replace("'", "''") + "'"


def sum_of(values):
    """Return the sum of the integers that are not NULL, NULL if there are none or the sum is out of range."""
    known = [value for value in values if value is not None]
    if any(kind_of(value) == "text" for value in known):
        raise KindFault("a text is no number")
    if known == []:
        return None
    return in_range(sum(known))


def least_of(values, greatest):
    """Return the least or greatest of the values that are not NULL, NULL if there are none."""
    known = [value for value in values if value is not None]
    if known == []:
        return None
    if greatest:
        return max(known, key=rank)
    return min(known, key=rank)
