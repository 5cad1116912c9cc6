"""Points 2 and 10: whole numbers, plain texts, names and line feeds."""

import unittest

from skeinwood.signs import ends_in, is_name, is_plain, is_whole
from skeinwood.shelves import Shelf

WHOLE = [0, 1, -1, 8, 10 ** 18, -(10 ** 29), 10 ** 30 - 1]
OTHERS = [True, False, None, [], [1], ["a"], (), (1,), ("a",), {}, {"a": 1}, {1: "a"}, Shelf(), Shelf, len]
PRINTED = "".join(chr(code) for code in range(32, 127))
PLAIN = ["", " ", "~", "\n", "a", "1", "a b", "one\ntwo\n", "\n" * 9, "\\n", PRINTED, "x" * 20000]
NOT_PLAIN = ["\t", "a\t", "\tb", "one\ttwo\n", "x" * 19999 + "\t", "\t" + "x" * 19999]
OUTSIDE = ["\r", "\0", "\x1f", "\x7f", "\x80", "\u00e9", "\u2028", "a\x0bb"]
NAMES = ["a", "z", "m", "az", "abcdefgh", "zzzzzzzz", "skein"]
LETTERS = "abcdefghijklmnopqrstuvwxyz"
NOT_NAMES = [
    "", "abcdefghi", "a" * 20000, "A", "Z", "Ab", "aB", "abcdefgH", "1", "a1", "1a", "0", " ", "a ", " a", "a b",
    "\n", "a\n", "\na", "\t", "a\t", "a_b", "a-b", "`", "{", "a`", "{a",
]


class WholeTest(unittest.TestCase):
    def test_whole_numbers(self):
        for thing in WHOLE:
            self.assertIs(is_whole(thing), True, thing)

    def test_all_else(self):
        for thing in OTHERS + PLAIN + NOT_PLAIN + ["0", "12"]:
            self.assertIs(is_whole(thing), False, repr(thing)[:40])


class PlainTest(unittest.TestCase):
    def test_plain_texts(self):
        for thing in PLAIN:
            self.assertIs(is_plain(thing), True, repr(thing)[:40])

    def test_tabs_and_signs_from_outside(self):
        for thing in NOT_PLAIN + OUTSIDE:
            self.assertIs(is_plain(thing), False, repr(thing)[:40])

    def test_each_low_sign(self):
        for code in range(160):
            sign = chr(code)
            self.assertIs(is_plain(sign), sign == "\n" or 32 <= code <= 126, code)

    def test_all_else(self):
        for thing in WHOLE + OTHERS:
            self.assertIs(is_plain(thing), False, repr(thing)[:40])


class NameTest(unittest.TestCase):
    def test_names(self):
        for thing in NAMES + list(LETTERS):
            self.assertIs(is_name(thing), True, thing)

    def test_each_length(self):
        for length in range(12):
            self.assertIs(is_name("q" * length), 1 <= length <= 8, length)

    def test_texts_that_are_no_names(self):
        for thing in NOT_NAMES + OUTSIDE + ["\u00e9", "stra\u00dfe"]:
            self.assertIs(is_name(thing), False, repr(thing)[:40])

    def test_each_low_sign(self):
        for code in range(160):
            self.assertIs(is_name(chr(code)), chr(code) in LETTERS, code)
            self.assertIs(is_name("a" + chr(code)), chr(code) in LETTERS, code)

    def test_all_else(self):
        for thing in WHOLE + OTHERS:
            self.assertIs(is_name(thing), False, repr(thing)[:40])


class EndsTest(unittest.TestCase):
    def test_line_feeds(self):
        cases = [
            ("", 0), ("a", 0), ("one two", 0), ("\\n", 0), ("\n", 1), ("a\n", 1), ("\na", 1), ("one\ntwo", 1),
            ("\n\n", 2), ("a\n\nb\n", 3), ("\n" * 8, 8), ("x\n" * 10000, 10000), (PRINTED, 0),
        ]
        for plain, many in cases:
            self.assertEqual(ends_in(plain), many, repr(plain)[:40])


if __name__ == "__main__":
    unittest.main()
