"""Point 12: nested tuples as text and back, in one way only; pieces of a text."""

import random
import unittest

from tablestack.errors import RecordFault
from tablestack.parser import parse
from tablestack.statement_codec import pieces, tree_from_text, tree_text
from tests.drawn import Drawer

TREES = (
    (None, "n"), (True, "t"), (False, "f"), (0, "#0;"), (1, "#1;"), (-5, "#-5;"),
    (9223372036854775807, "#9223372036854775807;"), ("", "0:"), ("a", "1:a"),
    ("n", "1:n"), ("a:b;c", "5:a:b;c"), ("()", "2:()"), ("x" * 12, "12:" + "x" * 12), ("it's\n", "5:it's\n"),
    ((), "()"), ((None,), "(n)"), (((),), "(())"),
    (((), (True, False), "ab", -1), "(()(tf)2:ab#-1;)"), (("col", None, "a"), "(3:coln1:a)"), (("1", 1), "(1:1#1;)"),
    ("#1;", "3:#1;"),
)


class TextTest(unittest.TestCase):
    def test_texts(self):
        for tree, text in TREES:
            self.assertEqual(tree_text(tree), text)
            found = tree_from_text(text)
            self.assertEqual((found, type(found)), (tree, type(tree)))

    def test_statements(self):
        for seed in range(300):
            tree = Drawer(seed).statement(3)
            self.assertEqual(tree_from_text(tree_text(tree)), tree)
        tree = parse("create table t (a int not null default -5, b text, primary key (a), check (b like 'x*'))")
        self.assertEqual(tree_from_text(tree_text(tree)), tree)

    def test_invalid_texts(self):
        for text in (
            "", "x", " n", "n ", "nn", "N", "#", "#;", "#1", "1", "1:", "2:a", "1:ab", "0:a", ":", ":a", "01:a", "-1:a",
            "+1:a", "1;a", "#01;", "#-0;", "#-;", "#+1;", "#1_0;",
            "# 1;", "#1 ;", "#--1;", "#1:", "#a;", "#1.0;", "1 :a", "1_0:aaaaaaaaaa", "(", ")", "(n", "n)", "(n))",
            "((n)", "(x)", "(n,n)", "()()", "(1:a", "(2:a)", "#00;", "00:",
            "t#1;", "tf", "#\u0661;", "\u0661:a", "1\n:a",
        ):
            with self.assertRaises(RecordFault, msg=text):
                tree_from_text(text)

    def test_each_cut_and_each_changed_character(self):
        for tree, text in TREES:
            for place in range(len(text)):
                with self.assertRaises(RecordFault):
                    tree_from_text(text[:place])
                for sign in "nft#;:()019-a":
                    changed = text[:place] + sign + text[place + 1:]
                    try:
                        found = tree_from_text(changed)
                    except RecordFault:
                        continue
                    self.assertEqual(tree_text(found), changed)
            with self.assertRaises(RecordFault):
                tree_from_text(text + "n")

    def test_drawn_texts(self):
        chance = random.Random(11)
        for _ in range(4000):
            text = "".join(chance.choice("nft#;:()012-a") for _ in range(chance.randint(0, 8)))
            try:
                found = tree_from_text(text)
            except RecordFault:
                continue
            self.assertEqual(tree_text(found), text)

    def test_long_numbers(self):
        for number in (10 ** 29, 10 ** 30 - 1, 1 - 10 ** 29):
            self.assertEqual(len(str(number)), 30)
            self.assertEqual(tree_from_text(f"#{number};"), number)
        for number in (10 ** 30, -(10 ** 29), 10 ** 400):
            with self.assertRaises(RecordFault):
                tree_from_text(tree_text(number))
        for text in ("#" + "0" * 31 + ";", "1" * 31 + ":a", "1" * 5000 + ":a", "#" + "1" * 5000 + ";", "#" + "1" * 100):
            with self.assertRaises(RecordFault):
                tree_from_text(text)

    def test_open_items(self):
        for many in (1, 100, 199, 200):
            tree = ()
            for _ in range(many - 1):
                tree = (tree,)
            self.assertEqual(tree_text(tree), "(" * many + ")" * many)
            self.assertEqual(tree_from_text(tree_text(tree)), tree)
        for many in (201, 202, 5000):
            with self.assertRaises(RecordFault):
                tree_from_text("(" * many + ")" * many)
        for item in ("n", "#5;", "1:a", "()"):
            tree_from_text("(" * 199 + item + ")" * 199)
            tree_from_text("(" * 199 + item * 300 + ")" * 199)
            with self.assertRaises(RecordFault):
                tree_from_text("(" * 200 + item + ")" * 200)
        tree_from_text("(" + "()" * 1000 + ")")


class PiecesTest(unittest.TestCase):
    def test_pieces(self):
        for text, size, found in (
            ("", 3, [""]), ("abc", 3, ["abc"]), ("abcd", 3, ["abc", "d"]), ("abcdef", 3, ["abc", "def"]),
            ("ab", 3, ["ab"]), ("abc", 1, ["a", "b", "c"]), ("a", 1, ["a"]),
        ):
            self.assertEqual(pieces(text, size), found)
            self.assertEqual("".join(pieces(text, size)), text)


if __name__ == "__main__":
    unittest.main()
