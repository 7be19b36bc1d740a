"""Point 3: tokens, their words, values and places."""

import unittest

from tablestack.errors import TextError
from tablestack.lexer import Token, is_plain_name, tokenize

HIGHEST = 9223372036854775807


def words(text):
    return [token.word for token in tokenize(text)]


def values(text):
    return [(token.word, token.value) for token in tokenize(text)[:-1]]


def places(text):
    return [token.place for token in tokenize(text)]


class TokenTest(unittest.TestCase):
    def test_fields(self):
        token = Token("name", "a", 3)
        self.assertEqual((token.word, token.value, token.place), ("name", "a", 3))
        self.assertEqual(token.shown(), ("name", "a", 3))

    def test_empty_texts(self):
        for text in ("", " ", "\n", "  \n ", "-- a", "--", "--\n", " -- 'x' ; %\n"):
            self.assertEqual(words(text), ["end of text"])
        self.assertEqual(places("ab "), [0, 3])
        self.assertEqual(places(""), [0])


class NamesTest(unittest.TestCase):
    def test_names(self):
        self.assertEqual(values("a B_c _ _1 x9 Name"),
                         [("name", one) for one in ("a", "b_c", "_", "_1", "x9", "name")])
        self.assertEqual(values("selects intx text_ quoted"),
                         [("name", one) for one in ("selects", "intx", "text_", "quoted")])

    def test_keywords(self):
        self.assertEqual(words("select SELECT Select from text mod null")[:-1],
                         ["select", "select", "select", "from", "text", "mod", "null"])
        self.assertEqual(words("int INT 5")[:-1], ["kind int", "kind int", "int"])

    def test_keywords_are_no_names(self):
        for word in ("select distinct from where group by having order desc limit offset union all except intersect as join left "
                     "on and or not is null in between like case when then else end exists insert into values update set delete "
                     "create table int text primary key unique foreign references check default index view drop analyze begin "
                     "commit rollback to savepoint release explain mod").split():
            self.assertFalse(is_plain_name(word), word)
            for text in (word, word.upper()):
                self.assertEqual(words(text), ["kind int" if word == "int" else word, "end of text"])

    def test_is_plain_name(self):
        for text in ("a", "_", "a_1", "_9", "abc", "selects", "name", "quoted"):
            self.assertTrue(is_plain_name(text), text)
        for text in ("", "1", "1a", "A", "aB", "a b", "a.b", "a-", " a", "a\n", "select", "int", "null", "text", "\xe9"):
            self.assertFalse(is_plain_name(text), text)


class NumbersTest(unittest.TestCase):
    def test_numbers(self):
        self.assertEqual(values("0 7 007 42"), [("int", 0), ("int", 7), ("int", 7), ("int", 42)])
        self.assertEqual(values(f"{HIGHEST}"), [("int", HIGHEST)])

    def test_19_and_20_digits(self):
        self.assertEqual(values("0000000000000000001"), [("int", 1)])
        self.assertEqual(values("1000000000000000000"), [("int", 10 ** 18)])
        for text in ("00000000000000000001", "10000000000000000000", "9" * 20, "9223372036854775808", "9" * 19):
            with self.assertRaises(TextError):
                tokenize(text)

    def test_a_minus_is_a_sign(self):
        self.assertEqual(words("-5 - 5")[:-1], ["-", "int", "-", "int"])


class TextsTest(unittest.TestCase):
    def test_texts(self):
        self.assertEqual(values("'' 'a b' 'it''s' '''' 'A'"),
                         [("quoted", one) for one in ("", "a b", "it's", "'", "A")])
        self.assertEqual(values("'a''''b''c'"), [("quoted", "a''b'c")])
        self.assertEqual(values("'a' 'b'"), [("quoted", "a"), ("quoted", "b")])
        self.assertEqual(values("'-- no comment' 'two\nlines'"), [("quoted", "-- no comment"), ("quoted", "two\nlines")])

    def test_every_character_that_can_be_stored(self):
        signs = "\n" + "".join(chr(code) for code in range(32, 127) if chr(code) not in "%'")
        self.assertEqual(values(f"'{signs}'"), [("quoted", signs)])

    def test_texts_that_do_not_end(self):
        for text in ("'", "'a", "'a''", "'''", "a 'b", "'a' '", "'a -- '' \n"):
            with self.assertRaises(TextError, msg=text):
                tokenize(text)

    def test_texts_with_other_characters(self):
        for sign in ("%", "\t", "\r", "\x7f", "\xe9"):
            with self.assertRaises(TextError):
                tokenize(f"'a{sign}'")


class SignsTest(unittest.TestCase):
    def test_signs(self):
        signs = ["(", ")", ",", ".", ";", "=", "<>", "<", "<=", ">", ">=", "+", "-", "*", "/", "||"]
        self.assertEqual(words(" ".join(signs))[:-1], signs)
        self.assertEqual(words("a<=b<>c>=d||e")[:-1], ["name", "<=", "name", "<>", "name", ">=", "name", "||", "name"])
        self.assertEqual(words("(*)<(+)")[:-1], ["(", "*", ")", "<", "(", "+", ")"])

    def test_other_characters(self):
        for text in ("?", "!", "!=", "|", "a | b", "%", "#", "\"a\"", "a\tb", "\r\n", "[", "{", "&", "@", "~", "^", "\\", ":",
                     "$", "`", "\xe9", "a\xe9", "\xa0"):
            with self.assertRaises(TextError, msg=text):
                tokenize(text)


class GapsTest(unittest.TestCase):
    def test_gaps_and_comments(self):
        self.assertEqual(words("a -- b\nc")[:-1], ["name", "name"])
        self.assertEqual(words("a--b\n--c\n  --d")[:-1], ["name"])
        self.assertEqual(words("a - - b")[:-1], ["name", "-", "-", "name"])
        self.assertEqual(values("a -- it's 100% \t\nb"), [("name", "a"), ("name", "b")])
        self.assertEqual(values("a\n\n b"), [("name", "a"), ("name", "b")])

    def test_places(self):
        self.assertEqual(places("select a1,\n 'it''s' <> -- x\n 12"), [0, 7, 9, 12, 20, 29, 31])
        self.assertEqual(places("a<=b"), [0, 1, 3, 4])
        self.assertEqual(places(" -- x"), [5])


if __name__ == "__main__":
    unittest.main()
