"""Points 2, 4, 5, 41 and 50: the rows of a text."""

import random
import unittest

from skeinwood.errors import NoPlace, TooLong
from skeinwood.heights import leanest
from skeinwood.joining import built, joined, repeated
from skeinwood.rows import row_at, row_begin, row_text, rows_in
from tests.helper import MOST, ShelfCase, drawn_plain, some_text, spread, times_itself

PLAINS = [
    "", "a", "one row", "\n", "\n\n", "a\n", "\na", "a\nb", "a\n\nb", "\n\na\n\n", "one\ntwo\nthree",
    "one\ntwo\nthree\n", "\n" * 8, "\n" * 9, "\n" * 30, "1234567\n", "12345678\n", "\n12345678",
    "1234567\n2345678\n", "x" * 40, "x" * 40 + "\n", "\n" + "x" * 40, "a\n" * 25, "ab\n\n" * 12,
    "first\n" + "y" * 30 + "\nlast",
]


class RowsCase(ShelfCase):
    def held(self, text, plain):
        """Hold all that is told of the text's rows against the plain text as which it reads."""
        rows = plain.split("\n")
        self.assertEqual(self.asked(rows_in, text), len(rows))
        begin = 0
        for row, wish in enumerate(rows):
            self.assertEqual(self.asked(row_begin, text, row), begin)
            self.assertEqual(self.asked(row_text, text, row), wish)
            begin += len(wish) + 1
        for place in range(len(plain) + 1):
            row = plain[:place].count("\n")
            column = place - (plain[:place].rfind("\n") + 1)
            told = self.asked(row_at, text, place)
            self.assertEqual((told, type(told)), ((row, column), tuple))

    def not_there(self, text):
        rows, signs = self.shelf.ends(text) + 1, self.shelf.signs(text)
        for row in (-1, -2, -rows, rows, rows + 1, 10 ** 29, -(10 ** 29)):
            self.refused(NoPlace, row_begin, self.shelf, text, row)
            self.refused(NoPlace, row_text, self.shelf, text, row)
        for place in (-1, -2, -signs - 1, signs + 1, signs + 2, 10 ** 29, -(10 ** 29)):
            self.refused(NoPlace, row_at, self.shelf, text, place)


class LowTest(RowsCase):
    def test_built_texts(self):
        for plain in PLAINS:
            with self.subTest(plain=plain):
                self.held(built(self.shelf, plain), plain)

    def test_texts_of_drawn_leaves_and_forks(self):
        chance = random.Random(21)
        for plain in PLAINS + [drawn_plain(chance, signs, "ab\n") for signs in range(1, 60, 4)]:
            with self.subTest(plain=plain):
                self.held(some_text(self.shelf, chance, plain), plain)

    def test_the_text_without_signs_has_one_row(self):
        for turn in range(2):
            self.assertEqual(self.asked(rows_in, 0), 1)
            self.assertEqual(self.asked(row_begin, 0, 0), 0)
            self.assertEqual(self.asked(row_text, 0, 0), "")
            self.assertEqual(self.asked(row_at, 0, 0), (0, 0))
            self.not_there(0)
            self.shelf.leaf("\n")

    def test_rows_and_places_that_are_not_there(self):
        for plain in PLAINS:
            self.not_there(built(self.shelf, plain))

    def test_no_piece_goes_ahead(self):
        for turn in range(3):
            self.no_piece(rows_in, None)
            for number in (0, -1, 1, 10 ** 29, -(10 ** 29)):
                for ask in (row_begin, row_at, row_text):
                    self.no_piece(ask, None, number)
            times_itself(self.shelf, "123\n5678", turn)


class LongTest(RowsCase):
    def held_repeated(self, plain, many):
        """As held, of a plain text that ends in a line feed and is repeated very many times."""
        text = repeated(self.shelf, built(self.shelf, plain), many)
        rows, each = plain.split("\n")[:-1], plain.count("\n")
        self.assertEqual(self.asked(rows_in, text), each * many + 1)
        chance = random.Random(22)
        for turn in [0, 1, many // 2, many - 1] + [chance.randrange(many) for draw in range(6)]:
            begin = turn * len(plain)
            for at, wish in enumerate(rows):
                row = turn * each + at
                self.assertEqual(self.asked(row_begin, text, row), begin)
                self.assertEqual(self.asked(row_text, text, row), wish)
                for column in range(len(wish) + 1):
                    self.assertEqual(self.asked(row_at, text, begin + column), (row, column))
                begin += len(wish) + 1
        self.assertEqual(self.asked(row_begin, text, each * many), len(plain) * many)
        self.assertEqual(self.asked(row_text, text, each * many), "")
        self.assertEqual(self.asked(row_at, text, len(plain) * many), (each * many, 0))
        self.not_there(text)

    def test_repeated_rows(self):
        for plain in ("\n", "a\n", "a\n\n", "one\ntwo and\n\n", "1234567\n", "12345678\n", "\n\n\n\n\n\n\n\n\nx\n"):
            self.held_repeated(plain, 1000)
            self.held_repeated(plain, MOST // len(plain))

    def test_a_leaf_forked_with_itself(self):
        text = times_itself(self.shelf, "ab\ncdefg", 56)
        leaves = 2 ** 56
        self.assertEqual(rows_in(self.shelf, text), leaves + 1)
        for leaf in (0, 1, 2 ** 55, leaves - 1):
            self.assertEqual(row_begin(self.shelf, text, leaf + 1), 8 * leaf + 3)
            self.assertEqual(row_text(self.shelf, text, leaf), "cdefgab" if leaf else "ab")
            self.assertEqual(row_at(self.shelf, text, 8 * leaf + 7), (leaf + 1, 4))
        self.assertEqual(row_text(self.shelf, text, leaves), "cdefg")
        self.not_there(text)

    def test_a_text_without_line_feeds(self):
        for text in (leanest(self.shelf, 82), leanest(self.shelf, 30)):
            signs = self.shelf.signs(text)
            self.assertEqual((rows_in(self.shelf, text), row_begin(self.shelf, text, 0)), (1, 0))
            for place in (0, 1, signs // 2, signs - 1, signs):
                self.assertEqual(self.asked(row_at, text, place), (0, place))
            self.refused(TooLong, row_text, self.shelf, text, 0)
            self.not_there(text)

    def test_just_ten_thousand_signs_and_one_more(self):
        full = built(self.shelf, "x" * 10000)
        more = joined(self.shelf, full, self.shelf.leaf("y"))
        feed = self.shelf.leaf("\n")
        self.assertEqual(self.asked(row_text, full, 0), "x" * 10000)
        self.refused(TooLong, row_text, self.shelf, more, 0)
        text = full
        for part in (feed, more, feed, full):
            text = joined(self.shelf, text, part)
        self.assertEqual(self.shelf.ends(text), 2)
        self.assertEqual(row_text(self.shelf, text, 0), "x" * 10000)
        self.refused(TooLong, row_text, self.shelf, text, 1)
        self.assertEqual(row_text(self.shelf, text, 2), "x" * 10000)
        self.assertEqual([row_begin(self.shelf, text, row) for row in range(3)], [0, 10001, 20003])
        self.assertEqual(row_at(self.shelf, text, 20002), (1, 10001))
        self.not_there(text)

    def test_short_rows_about_a_very_long_one(self):
        long = repeated(self.shelf, self.shelf.leaf("z"), 10 ** 17)
        text = joined(self.shelf, joined(self.shelf, built(self.shelf, "one\n"), long), built(self.shelf, "\nthree\n"))
        self.assertEqual(rows_in(self.shelf, text), 4)
        begins = [0, 4, 4 + 10 ** 17 + 1, 4 + 10 ** 17 + 7]
        self.assertEqual([row_begin(self.shelf, text, row) for row in range(4)], begins)
        self.assertEqual([row_text(self.shelf, text, row) for row in (0, 2, 3)], ["one", "three", ""])
        self.refused(TooLong, row_text, self.shelf, text, 1)
        self.assertEqual(row_at(self.shelf, text, 10 ** 16), (1, 10 ** 16 - 4))
        self.not_there(text)

    def test_the_longest_text(self):
        text = spread(self.shelf, MOST)
        rows = MOST // 8
        self.assertEqual(rows_in(self.shelf, text), rows + 1)
        for row in (0, 1, rows // 2, rows - 1):
            self.assertEqual(row_begin(self.shelf, text, row), 8 * row)
            self.assertEqual(row_text(self.shelf, text, row), "abcdefg")
            self.assertEqual(row_at(self.shelf, text, 8 * row + 7), (row, 7))
        self.assertEqual(row_at(self.shelf, text, MOST), (rows, 0))
        self.not_there(text)


if __name__ == "__main__":
    unittest.main()
