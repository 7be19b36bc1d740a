"""Lexer: a statement's text to tokens."""

from tablestack.codec import check_text
from tablestack.errors import TextError
from tablestack.values import HIGHEST

SMALL_LETTERS = "abcdefghijklmnopqrstuvwxyz"
LETTERS = "abcdefghijklmnopqrstuvwxyzABCDEFGHIJKLMNOPQRSTUVWXYZ_"
DIGITS = "0123456789"
MOST_DIGITS = 19
GAPS = " \n"
COMMENT = "--"
QUOTE = "'"
LONG_SIGNS = ("<>", "<=", ">=", "||")
SHORT_SIGNS = ("(", ")", ",", ".", ";", "=", "<", ">", "+", "-", "*", "/")
KEYWORDS = (
    "all", "analyze", "and", "as", "asc", "begin", "between", "by", "case", "check", "commit", "create", "default",
    "delete", "desc", "distinct", "drop", "else", "end", "except", "exists", "explain", "foreign", "from", "group",
    "having", "in", "index", "insert", "int", "intersect", "into", "is", "join", "key", "left", "like", "limit",
    "mod", "not", "null", "offset", "on", "or", "order", "primary", "references", "release", "rollback", "savepoint",
    "select", "set", "table", "text", "then", "to", "union", "unique", "update", "values", "view", "when", "where",
)
# Numbers have the class "int", so that the keyword needs another one.
INT_KEYWORD = "int"
INT_KIND = "kind int"
END = "end of text"


class Token:
    """A token: its class ("name", "int", "quoted", a keyword, a sign or "end of text"), its value, and its place."""

    def __init__(self, word, value, place):
        self.word = word
        self.value = value
        self.place = place

    def shown(self):
        """Return (word, value, place)."""
        return (self.word, self.value, self.place)


def tokenize(text):
    """Return the tokens of a text, the last one being "end of text"; raise TextError for an invalid text."""
    tokens = []
    place = gap_end(text, 0)
    while place < len(text):
        token, place = token_at(text, place)
        tokens.append(token)
        place = gap_end(text, place)
    tokens.append(Token(END, None, len(text)))
    return tokens


def gap_end(text, place):
    """Return the place behind blanks, line ends and comments."""
    while place < len(text):
        if text[place] in GAPS:
            place += 1
        elif text.startswith(COMMENT, place):
            end = text.find("\n", place)
            place = len(text) if end < 0 else end
        else:
            return place
    return place


def token_at(text, place):
    """Return (token, place after it) at a place where no gap is."""
    sign = text[place]
    if sign in LETTERS:
        return word_token(text, place)
    if sign in DIGITS:
        return number_token(text, place)
    if sign == QUOTE:
        return quoted_token(text, place)
    pair = text[place:place + 2]
    if pair in LONG_SIGNS:
        return (Token(pair, pair, place), place + 2)
    if sign in SHORT_SIGNS:
        return (Token(sign, sign, place), place + 1)
    raise TextError(f"no token begins at {place}")


def run_end(text, place, signs):
    """Return the place behind all characters from a place on that are among some."""
    while place < len(text) and text[place] in signs:
        place += 1
    return place


def word_token(text, place):
    """Return (token, place after it) of a name or a keyword."""
    end = run_end(text, place, LETTERS + DIGITS)
    name = text[place:end].lower()
    if name == INT_KEYWORD:
        return (Token(INT_KIND, name, place), end)
    if name in KEYWORDS:
        return (Token(name, name, place), end)
    return (Token("name", name, place), end)


def number_token(text, place):
    """Return (token, place after it) of a number."""
    end = run_end(text, place, DIGITS)
    if end - place > MOST_DIGITS:
        raise TextError(f"the number at {place} has too many digits")
    number = int(text[place:end])
    if number > HIGHEST:
        raise TextError(f"the number at {place} is too large")
    return (Token("int", number, place), end)


def quoted_token(text, place):
    """Return (token, place after it) of a text in quotes."""
    parts = []
    start = place + 1
    while True:
        end = text.find(QUOTE, start)
        if end < 0:
            raise TextError(f"the text at {place} does not end")
        parts.append(text[start:end])
        if not text.startswith(QUOTE, end + 1):
            return (Token("quoted", check_text(QUOTE.join(parts)), place), end + 1)
        start = end + 2


def is_plain_name(text):
    """Return True if a text is a name: small letters, digits and "_", no digit first, no keyword."""
    if text == "" or text[0] in DIGITS or text in KEYWORDS:
        return False
    return run_end(text, 0, SMALL_LETTERS + DIGITS + "_") == len(text)
