"""Entries: what tables, indexes and views are, as the catalog's tree keeps it: in pieces of text.

An entry's key is the text of a letter and a name; each piece of its text has a number behind that key.
"""

from tablestack.codec import fixed, key_of, sign_at, sign_number, upper_key, values_from_key
from tablestack.errors import ConstraintFault, RecordFault, TextError
from tablestack.statement_codec import pieces, tree_from_text, tree_text

TABLE_LETTER = "t"
INDEX_LETTER = "i"
VIEW_LETTER = "v"
NUMBER_BYTES = 2
# What a cell needs beside an entry's key and the characters of a piece.
BESIDE = 10
LEAST_PIECE = 4


def entry_key(letter, name):
    """Return the key of an entry, ahead of its pieces' numbers."""
    return key_of((letter + name,))


def piece_size(tree, letter, name):
    """Return the number of characters of an entry's pieces; raise ConstraintFault if the name leaves too few."""
    size = tree.room() - len(entry_key(letter, name)) - BESIDE
    if size < LEAST_PIECE:
        raise ConstraintFault(f"the name {name} is too long")
    return size


def entry_text(shown):
    """Return the text of an entry, which is a nested tuple or a text; raise TextError if it could not be read again."""
    text = tree_text(shown)
    try:
        tree_from_text(text)
    except RecordFault:
        raise TextError("the catalog cannot hold this") from None
    return text


def put_entry(tree, letter, name, shown):
    """Keep an entry."""
    key = entry_key(letter, name)
    for number, piece in enumerate(pieces(entry_text(shown), piece_size(tree, letter, name))):
        tree.put((*key, *fixed(number, NUMBER_BYTES)), tuple([sign_number(sign) for sign in piece]))


def drop_entry(tree, letter, name):
    """Drop an entry."""
    key = entry_key(letter, name)
    cells = tree.scan(key, upper_key(key))
    for one, _ in cells:
        tree.remove(one)


def read_entries(tree):
    """Return a table of the letters to the entries of each, (name, nested tuple or text) in order."""
    parts = {}
    for key, value in tree.scan():
        text = values_from_key(key[:-NUMBER_BYTES])[0]
        parts.setdefault(text, []).extend([sign_at(one) for one in value])
    found = {TABLE_LETTER: [], INDEX_LETTER: [], VIEW_LETTER: []}
    for text in parts:
        found[text[0]].append((text[1:], tree_from_text("".join(parts[text]))))
    return found
