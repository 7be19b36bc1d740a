"""Statement codec: nested tuples of texts, numbers, truths and NULL as text and back, for what the catalog holds."""

from tablestack.errors import RecordFault

MOST_OPEN = 200
MOST_SIGNS = 30
DIGITS = "0123456789"
WORDS = {"n": None, "t": True, "f": False}
NUMBER = "#"
NUMBER_END = ";"
LENGTH_END = ":"


def tree_text(tree):
    """Return the text of a nested tuple: items in brackets, texts with their length, n, t and f, numbers after #."""
    if tree is None:
        return "n"
    if tree is True:
        return "t"
    if tree is False:
        return "f"
    if isinstance(tree, str):
        return str(len(tree)) + LENGTH_END + tree
    if isinstance(tree, tuple):
        return "(" + "".join([tree_text(item) for item in tree]) + ")"
    return NUMBER + str(tree) + NUMBER_END


def tree_from_text(text):
    """Return the nested tuple of a text; raise RecordFault for a text that is none, or is told in another way."""
    reader = ItemReader(text)
    found = reader.item()
    if reader.place != len(text) or tree_text(found) != text:
        raise RecordFault("a text has more, or is told otherwise")
    return found


class ItemReader:
    """A text, the place up to which it was read, and how many items are open there."""

    def __init__(self, text):
        self.text = text
        self.place = 0
        self.opened = 0

    def ahead(self):
        """Return the next character; raise RecordFault if the text ends."""
        if self.place >= len(self.text):
            raise RecordFault("a text ends within an item")
        return self.text[self.place]

    def item(self):
        """Return the next item."""
        self.opened += 1
        if self.opened > MOST_OPEN:
            raise RecordFault("too many items are open")
        sign = self.ahead()
        if sign in WORDS:
            self.place += 1
            found = WORDS[sign]
        elif sign == "(":
            found = self.items_in_brackets()
        elif sign == NUMBER:
            self.place += 1
            found = self.number_before(NUMBER_END)
        else:
            found = self.counted_text()
        self.opened -= 1
        return found

    def items_in_brackets(self):
        """Return the tuple of items that stand in brackets."""
        self.place += 1
        found = []
        while self.ahead() != ")":
            found.append(self.item())
        self.place += 1
        return tuple(found)

    def number_before(self, sign):
        """Return the number that stands before a sign, and move behind the sign."""
        end = self.text.find(sign, self.place, self.place + MOST_SIGNS + 1)
        if end < 0:
            raise RecordFault("a number does not end, or has too many signs")
        written = self.text[self.place:end]
        digits = written[1:] if written.startswith("-") else written
        if digits == "" or not all(one in DIGITS for one in digits):
            raise RecordFault("a number has other signs than digits")
        self.place = end + 1
        return int(written)

    def counted_text(self):
        """Return the text that stands behind its length."""
        many = self.number_before(LENGTH_END)
        end = self.place + many
        if many < 0 or end > len(self.text):
            raise RecordFault("a text ends before its length")
        found = self.text[self.place:end]
        self.place = end
        return found


def pieces(text, size):
    """Return a text in pieces of at most so many characters, one piece at least."""
    if text == "":
        return [""]
    return [text[start:start + size] for start in range(0, len(text), size)]
