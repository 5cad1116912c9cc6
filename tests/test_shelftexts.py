"""Points 2, 4, 10, 20 to 23 and 130: shelves written as texts, and read again."""

import random
import unittest

from skeinwood.cutting import cut_at
from skeinwood.errors import Torn
from skeinwood.heights import leanest
from skeinwood.joining import built, joined, repeated
from skeinwood.shelftexts import read_shelf, shelf_text
from skeinwood.shelves import MOST_SIGNS, Shelf
from tests.helper import (
    ASKS, MOST, ShelfCase, drawn_plain, long_texts, made_otherwise, pieces_of, reads, spread, times_itself,
)

# Two leaves, a fork of them, and a leaf that goes with none of them.
GOOD = ["leaf abcdefgh", "leaf 12345678", "fork 1 2", "leaf \\n"]


def rows_by_pieces(shelf):
    """The rows of a shelf's text, by the document's words."""
    rows = []
    for piece in pieces_of(shelf):
        if piece[0] == "leaf":
            rows.append("leaf " + "".join({"\n": "\\n", "\\": "\\\\"}.get(sign, sign) for sign in piece[1]))
        else:
            rows.append("fork {} {}".format(piece[1], piece[2]))
    return rows


class TextsCase(ShelfCase):
    def goes_round(self):
        """The shelf is written as asked, and read again with the same pieces by the same numbers."""
        text = self.asked(shelf_text)
        self.assertEqual((text, type(text)), ("\n".join(rows_by_pieces(self.shelf)), str))
        other = read_shelf(text)
        self.assertIsInstance(other, Shelf)
        self.assertIsNot(other, self.shelf)
        self.same(other)
        self.assertEqual(shelf_text(other), text)
        return other

    def same(self, other):
        self.assertEqual(pieces_of(other), pieces_of(self.shelf))
        self.assertEqual(other.many(), self.shelf.many())
        for number in range(other.many() + 1):
            told = [getattr(other, ask)(number) for ask in ASKS]
            self.assertEqual(told, self.told(number))
        for number, piece in enumerate(pieces_of(other), start=1):
            self.assertEqual(other.leaf(piece[1]) if piece[0] == "leaf" else other.fork(*piece[1:]), number)

    def torn(self, text, row):
        """The text is refused with Torn, twice, which bears this row's number."""
        for turn in range(2):
            with self.assertRaises(Torn) as taken:
                read_shelf(text)
            self.assertIs(type(taken.exception), Torn)
            self.assertEqual((taken.exception.row, type(taken.exception.row)), (row, int))

    def torn_row(self, row):
        """The row is wrong, at the begin, behind good rows, and ahead of rows that are good or wrong."""
        for end in range(len(GOOD) + 1):
            ahead = GOOD[:end]
            for behind in ([], ["leaf q"], ["leaf q", ""], ["", "fork 0 0"], GOOD[end:]):
                # A row without signs that is the only one is the text of the shelf without pieces.
                if ahead + [row] + behind != [""]:
                    self.torn("\n".join(ahead + [row] + behind), end)


class WrittenTest(TextsCase):
    def test_without_pieces(self):
        self.assertEqual(self.asked(shelf_text), "")
        self.assertEqual(self.goes_round().many(), 0)
        self.assertIsNot(read_shelf(""), read_shelf(""))

    def test_by_the_words_of_the_document(self):
        one, other = self.shelf.leaf("Skein, \n"), self.shelf.leaf("a\\n b")
        self.shelf.fork(one, other)
        self.assertEqual(self.asked(shelf_text), "leaf Skein, \\n\nleaf a\\\\n b\nfork 1 2")
        self.goes_round()

    def test_line_feeds_backslashes_and_blanks(self):
        plains = ["\n", "\\", " ", "\n\n", "\\\\", "  ", "\\n", "n\\", "\\\n", "\n\\", " a", "a ", " \n ", "\\n\\n",
                  "n", "\n" * 8, "\\" * 8, " " * 8, "leaf a", "fork 1 2", "\\\\n", "\\\n\\n\\\\\n", "~", "!", "0", "-1",
                  '"', "'"]
        for plain in plains:
            self.shelf.leaf(plain)
            self.goes_round()
        self.assertEqual(self.shelf.many(), len(plains))

    def test_every_sign(self):
        for code in list(range(32, 127)) + [10]:
            self.shelf.leaf(chr(code))
            self.shelf.leaf("a" + chr(code) * 7)
        self.goes_round()

    def test_drawn_shelves(self):
        chance = random.Random(1)
        for turn in range(12):
            self.know()
            self.shelf = Shelf()
            for text in range(turn):
                plains = [drawn_plain(chance, chance.randrange(50)) for two in "ab"]
                one, other = [made_otherwise(self.shelf, chance, plain) for plain in plains]
                cut_at(self.shelf, joined(self.shelf, one, other), self.shelf.signs(one) // 2)
            self.goes_round()

    def test_the_pieces_of_very_long_texts(self):
        list(long_texts(self.shelf))
        text = repeated(self.shelf, built(self.shelf, "some words\n"), 10 ** 16)
        cut_at(self.shelf, text, 12345678901234)
        self.assertGreater(self.shelf.many(), 1000)
        self.goes_round()

    def test_deeds_go_on_and_tell_the_same_numbers(self):
        chance = random.Random(2)
        texts = [made_otherwise(self.shelf, chance, drawn_plain(chance, 40)) for turn in range(6)]
        texts.append(leanest(self.shelf, 9))
        other = self.goes_round()
        for shelf in (self.shelf, other):
            drawn = random.Random(3)
            for turn in range(20):
                one, two = drawn.choice(texts), drawn.choice(texts)
                self.assertEqual(reads(shelf, joined(shelf, one, two)), reads(shelf, one) + reads(shelf, two))
                built(shelf, drawn_plain(drawn, 20))
        self.same(other)

    def test_what_is_read_is_by_itself(self):
        built(self.shelf, "some words that lie there\n")
        text = shelf_text(self.shelf)
        one, other = read_shelf(text), read_shelf(text)
        one.leaf("more")
        self.assertEqual(shelf_text(other), text)
        self.assertEqual(shelf_text(self.shelf), text)


class ReadTest(TextsCase):
    def test_pieces_in_another_order_that_can_lie_so(self):
        for rows in (["leaf abcdefgh", "fork 1 1", "leaf 12345678", "fork 3 1", "fork 2 4", "leaf x"],
                     ["leaf x", "leaf 12345678", "leaf abcdefgh", "fork 2 3", "fork 3 2", "fork 1 2"],
                     ["leaf a", "leaf aaaaaaaa", "fork 1 2", "fork 2 1", "fork 3 3", "fork 3 2", "fork 2 2"]):
            other = read_shelf("\n".join(rows))
            self.assertEqual(other.many(), len(rows))
            self.assertEqual(shelf_text(other), "\n".join(rows))
            self.assertEqual(rows_by_pieces(other), rows)

    def test_a_shelf_turned_about(self):
        chance = random.Random(11)
        for turn in range(20):
            self.know()
            self.shelf = Shelf()
            for text in range(4):
                made_otherwise(self.shelf, chance, drawn_plain(chance, 40))
            pieces = pieces_of(self.shelf)
            numbers, rows = {}, []
            while len(rows) < len(pieces):
                free = [number for number, piece in enumerate(pieces, start=1) if number not in numbers
                        and (piece[0] == "leaf" or (piece[1] in numbers and piece[2] in numbers))]
                number = chance.choice(free)
                piece = pieces[number - 1]
                parts = [] if piece[0] == "leaf" else [str(numbers[part]) for part in piece[1:]]
                rows.append(" ".join(["fork"] + parts) if parts else rows_by_pieces(self.shelf)[number - 1])
                numbers[number] = len(rows)
            other = read_shelf("\n".join(rows))
            self.assertEqual(rows_by_pieces(other), rows)
            for number, place in numbers.items():
                self.assertEqual(reads(other, place), reads(self.shelf, number))

    def test_the_good_rows(self):
        for end in range(len(GOOD) + 1):
            self.assertEqual(shelf_text(read_shelf("\n".join(GOOD[:end]))), "\n".join(GOOD[:end]))

    def test_line_feeds_at_the_end_ahead_and_alone(self):
        for many in (1, 2, 5):
            self.torn("\n" * many, 0)
            self.torn("\n" * many + "\n".join(GOOD), 0)
            for end in range(1, len(GOOD) + 1):
                self.torn("\n".join(GOOD[:end]) + "\n" * many, end)
        self.torn("leaf a\n\nleaf b", 1)

    def test_rows_of_another_form(self):
        for row in ("", " ", "  ", "\t", "leaf", "fork", "LEAF a", "Leaf a", "leaves a", "lea a", "leafa", "leaf\ta",
                    " leaf a", "fork 1", "fork 1 ", "fork  1 2", "fork 1  2", "fork 1 2 ", " fork 1 2", "fork 1 2 3",
                    "fork 1,2", "fork\t1 2", "fork 1\t2", "Fork 1 2", "forks 1 2", "fork1 2", "branch 1 2", "1 2",
                    "abc", "text a", "fork a b", "fork 1 b", "fork one two", "piece 1", "-", "0", "1", "()", "#",
                    "fork 1 2\r", "leaf a\r", "\r", "fork ", "fork  ", "fork   ", "leaf: a", "fork: 1 2"):
            self.torn_row(row)

    def test_wrong_leaves(self):
        for row in ("leaf ", "leaf 123456789", "leaf " + "a" * 9, "leaf " + "a" * 19990, "leaf  12345678",
                    "leaf 12345678 ", "leaf \t", "leaf a\tb", "leaf \\", "leaf a\\", "leaf \\a", "leaf \\N",
                    "leaf \\t", "leaf \\ ", "leaf \\ n", "leaf \\\\\\", "leaf \\n\\", "leaf \\\\\\a", "leaf a\\b",
                    "leaf \\\"", "leaf \\0",
                    "leaf " + "\\n" * 9, "leaf " + "\\\\" * 9, "leaf " + "\\" * 17, "leaf \u00e9", "leaf \x7f",
                    "leaf \r", "leaf a\r", "leaf \x1f"):
            self.torn_row(row)

    def test_eight_signs_that_are_written_by_more(self):
        for plain in ("\n" * 8, "\\" * 8, "\\n" * 4, "a\\\n\\\\\nbc"):
            row = "leaf " + plain.replace("\\", "\\\\").replace("\n", "\\n")
            other = read_shelf(row)
            self.assertEqual(other.piece(1), ("leaf", plain))
            self.torn(row + "\\n", 0)
            self.torn(row + "\\\\", 0)

    def test_wrong_numbers(self):
        for wrong in ("0", "00", "01", "001", "+1", "-1", "-0", "1.", "1.0", "1e0", "0x1", "1_0", "a", "", " ",
                      "\u0661", "\u00b2", "9", "99", "9" * 30, "9" * 31, "1" + "0" * 29, "1" + "0" * 30, "0" * 30 + "1",
                      "0" * 29 + "1", "1" * 5000, "True", "None", "1,", "#1", "1\\n"):
            for row in ("fork " + wrong + " 1", "fork 1 " + wrong, "fork " + wrong + " " + wrong):
                self.torn_row(row)

    def test_parts_that_have_not_come_yet(self):
        rows = ["leaf abcdefgh", "leaf 12345678"]
        for row in ("fork 1 3", "fork 3 1", "fork 3 3", "fork 1 4", "fork 2 5", "fork 4 4"):
            self.torn("\n".join(rows + [row]), 2)
            self.torn("\n".join(rows + [row, "leaf ABCDEFGH", "leaf z"]), 2)
        self.torn("fork 1 1", 0)
        self.torn("fork 2 3\nleaf abcdefgh\nleaf 12345678", 0)
        self.torn("leaf abcdefgh\nfork 1 3\nleaf 12345678", 1)

    def test_pieces_that_lie_there_already(self):
        for place, row in enumerate(GOOD):
            for end in range(place + 1, len(GOOD) + 1):
                self.torn("\n".join(GOOD[:end] + [row] + GOOD[end:]), end)
        self.torn("leaf a\nleaf a", 1)
        self.torn("leaf a\nleaf b\nleaf c\nleaf b\nleaf a", 3)
        self.torn("leaf 5678\\\\n\nleaf x\nleaf 5678\\\\n", 2)

    def test_loose_ones(self):
        rows = ["leaf a", "leaf 1234567", "leaf 12345678"]
        for row in ("fork 1 1", "fork 1 2", "fork 2 1"):
            self.torn("\n".join(rows + [row]), 3)
            self.torn("\n".join(rows + [row, ""]), 3)
        read_shelf("\n".join(rows + ["fork 1 3", "fork 3 1", "fork 2 2"]))
        self.torn("\n".join(rows + ["fork 3 1", "fork 4 2"]), 4)

    def test_ones_that_are_not_level(self):
        rows = ["leaf abcdefgh", "fork 1 1", "fork 2 2", "fork 2 1"]
        read_shelf("\n".join(rows))
        for row in ("fork 3 1", "fork 1 3", "fork 4 1", "fork 1 4"):
            self.torn("\n".join(rows + [row]), 4)
        read_shelf("\n".join(rows + ["fork 3 2", "fork 2 4"]))

    def test_ones_that_are_too_long(self):
        spread(self.shelf, MOST)
        most = self.shelf.many()
        rows = rows_by_pieces(self.shelf)
        self.assertEqual(self.shelf.signs(most), MOST_SIGNS)
        for row in ("fork {0} {0}".format(most), "fork {} {}".format(most, most - 1)):
            self.torn("\n".join(rows + [row]), most)
        self.know()
        self.shelf = Shelf()
        times_itself(self.shelf, "12345678", 56)
        rows = rows_by_pieces(self.shelf)
        read_shelf("\n".join(rows))
        self.torn("\n".join(rows + ["fork 57 57"]), 57)
        read_shelf("\n".join(rows + ["fork 57 56"]))

    def test_the_first_wrong_row_is_told(self):
        wrong = ["", "leaf", "fork 0 1", "leaf \\", "fork 9 9", "leaf abcdefgh"]
        for one in wrong:
            for other in wrong:
                self.torn("\n".join(GOOD + [one, other]), 4)
                self.torn("\n".join(GOOD[:2] + [one] + GOOD[2:] + [other]), 2)
                self.torn("\n".join(GOOD + ["leaf q", one, "leaf r", other]), 5)

    def test_one_sign_put_otherwise(self):
        chance = random.Random(12)
        built(self.shelf, "some words\\\n and others\n" * 3)
        text = shelf_text(self.shelf)
        for place in range(len(text)):
            for sign in ("", "\t", "\n", "\\", " ", "0", "~", text[place] * 2):
                self.read_or_torn(text[:place] + sign + text[place + 1:])
        for turn in range(300):
            rows = text.split("\n")
            one, other = chance.randrange(len(rows)), chance.randrange(len(rows))
            rows[one], rows[other] = rows[other], rows[one]
            self.read_or_torn("\n".join(rows))

    def read_or_torn(self, text):
        """What is read is written as the very text; else a row is told up to which it is read, and not with it."""
        try:
            self.assertEqual(shelf_text(read_shelf(text)), text)
        except Torn as torn:
            rows = text.split("\n")
            self.assertTrue(0 <= torn.row < len(rows))
            ahead = "\n".join(rows[:torn.row])
            self.assertEqual(shelf_text(read_shelf(ahead)), ahead)
            self.torn("\n".join(rows[:torn.row + 1]) or "\n", torn.row)


if __name__ == "__main__":
    unittest.main()
