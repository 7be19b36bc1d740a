"""Reader: goes through the tokens of a text, and counts what is open while it is read."""

from tablestack.errors import TextError
from tablestack.lexer import END, tokenize

MOST_OPEN = 60


class Reader:
    """The tokens of a text, the place of the next one, where each bracket closes, and which one it is around."""

    def __init__(self, text):
        self.tokens = tokenize(text)
        self.place = 0
        self.opened = 0
        self.closers = closing_places(self.tokens)
        self.wrapped = wrapped_places(self.tokens, self.closers)

    def word_at(self, place):
        """Return the word of the token at a place, "end of text" behind all."""
        if place < len(self.tokens):
            return self.tokens[place].word
        return END

    def ahead(self, steps=0):
        """Return the word of the next token, or of one so many tokens further on."""
        return self.word_at(self.place + steps)

    def taken(self, word):
        """Return the value of the next token, which has to be of a class, and move on."""
        token = self.tokens[self.place]
        if token.word != word:
            raise TextError(f"{word} is missing at {token.place}")
        self.place += 1
        return token.value

    def take(self, word):
        """Move on if the next token is of a class; return whether it is."""
        if self.ahead() != word:
            return False
        self.place += 1
        return True

    def finish(self):
        """Raise TextError if the text goes on."""
        if self.ahead() != END:
            raise TextError(f"the text goes on at {self.tokens[self.place].place}")

    def enter(self):
        """Count one more that is open; raise TextError if these are too many."""
        self.opened += 1
        if self.opened > MOST_OPEN:
            raise TextError("too much is begun and not ended")

    def leave(self):
        """Count one less that is open."""
        self.opened -= 1

    def separated(self, read):
        """Return what a method reads, again and again with commas between."""
        found = [read()]
        while self.take(","):
            found.append(read())
        return tuple(found)

    def taken_name(self):
        """Return the next token's name, and move on."""
        return self.taken("name")

    def taken_names(self):
        """Return names in brackets."""
        self.taken("(")
        found = self.separated(self.taken_name)
        self.taken(")")
        return found


def closing_places(tokens):
    """Return, for each token that is an opening bracket, the place of the one that closes it."""
    places = [len(tokens)] * len(tokens)
    waiting = []
    for place, token in enumerate(tokens):
        if token.word == "(":
            waiting.append(place)
        elif token.word == ")" and waiting != []:
            places[waiting.pop()] = place
    return places


def wrapped_places(tokens, closers):
    """Return, for each token, its place, or for a bracket around another one alone the place of the innermost such."""
    places = list(range(len(tokens)))
    for place in range(len(tokens) - 2, -1, -1):
        if tokens[place].word == "(" and tokens[place + 1].word == "(" and closers[place + 1] + 1 == closers[place]:
            places[place] = places[place + 1]
    return places
