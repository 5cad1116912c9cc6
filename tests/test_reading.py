"""Points 2, 4, 5, 40 and 41: the sign at a place, stretches and whole texts."""

import random
import unittest

from skeinwood.errors import NoPlace, TooLong
from skeinwood.joining import built, joined, repeated
from skeinwood.reading import sign_at, stretch_of, whole_text
from tests.helper import (
    MOST, ShelfCase, drawn_plain, long_texts, part_by_pieces, sign_by_pieces, some_text, times_itself)

BEYOND = [10 ** 29, -(10 ** 29), 10 ** 30 - 1]


def low_texts(shelf):
    """Texts of few signs, with the plain texts as which they read."""
    chance = random.Random(11)
    for signs in (0, 1, 2, 7, 8, 9, 10, 16, 17, 26, 40):
        plain = drawn_plain(chance, signs)
        yield some_text(shelf, chance, plain), plain
        yield built(shelf, plain), plain


def stretches_beyond(signs):
    """Pairs of a begin and an end between which a text of so many signs has no stretch."""
    found = [(-1, signs), (-1, 0), (-1, -1), (-2, -1), (0, signs + 1), (signs, signs + 1), (signs + 1, signs + 1),
             (signs + 1, signs), (-1, signs + 1), (1, 0), (signs, -1), (0, -1), (signs + 1, 0)]
    if signs > 0:
        found += [(signs, signs - 1), (signs, 0), (-signs, 0), (-signs, signs)]
    for far in BEYOND:
        found += [(0, far), (far, signs), (far, far), (far, 0)]
    return [pair for pair in found if not 0 <= pair[0] <= pair[1] <= signs]


class SignTest(ShelfCase):
    def no_places(self, text):
        signs = self.shelf.signs(text)
        for place in [-1, -2, -signs - 1, signs, signs + 1, 2 * signs + 1] + BEYOND:
            self.refused(NoPlace, sign_at, self.shelf, text, place)

    def test_every_place_of_low_texts(self):
        for text, plain in low_texts(self.shelf):
            signs = [self.asked(sign_at, text, place) for place in range(len(plain))]
            self.assertEqual(signs, list(plain))

    def test_places_of_long_texts(self):
        chance = random.Random(12)
        for text in long_texts(self.shelf):
            signs = self.shelf.signs(text)
            for place in [0, signs - 1, 1, signs // 2] + [chance.randrange(signs) for turn in range(40)]:
                sign = self.asked(sign_at, text, place)
                self.assertEqual(len(sign), 1)
                self.assertEqual(sign, sign_by_pieces(self.shelf, text, place))

    def test_a_long_text_by_its_making(self):
        plain = "some words\n"
        text = repeated(self.shelf, built(self.shelf, plain), MOST // 11)
        for place in (0, 10, 11, 11 * 10 ** 16 + 3, self.shelf.signs(text) - 1):
            self.assertEqual(sign_at(self.shelf, text, place), plain[place % 11])

    def test_no_place(self):
        for text, plain in low_texts(self.shelf):
            self.no_places(text)
        for text in long_texts(self.shelf):
            self.no_places(text)
        self.refused(NoPlace, sign_at, self.shelf, 0, 0)

    def test_no_piece_goes_ahead(self):
        for turn in range(3):
            for place in [0, -1, 3] + BEYOND:
                self.no_piece(sign_at, None, place)
            times_itself(self.shelf, "12345678", turn)


class StretchTest(ShelfCase):
    def test_every_begin_and_end_of_low_texts(self):
        for text, plain in low_texts(self.shelf):
            for begin in range(len(plain) + 1):
                for end in range(begin, len(plain) + 1):
                    self.assertEqual(self.asked(stretch_of, text, begin, end), plain[begin:end])

    def test_drawn_ones_of_a_text_of_some_thousand_signs(self):
        chance = random.Random(13)
        plain = drawn_plain(chance, 7000)
        text = joined(self.shelf, built(self.shelf, plain[:1234]), built(self.shelf, plain[1234:]))
        for turn in range(60):
            begin = chance.randint(0, 7000)
            end = chance.randint(begin, 7000)
            self.assertEqual(stretch_of(self.shelf, text, begin, end), plain[begin:end])

    def test_drawn_ones_of_long_texts(self):
        chance = random.Random(14)
        for text in long_texts(self.shelf):
            signs = self.shelf.signs(text)
            for begin in [0, 1, signs // 2, signs - 200] + [chance.randrange(signs - 200) for turn in range(6)]:
                for length in (0, 1, 2, 8, 9, 50, 200):
                    wish = part_by_pieces(self.shelf, text, begin, begin + length)
                    self.assertEqual(self.asked(stretch_of, text, begin, begin + length), wish)

    def test_without_signs(self):
        for text in long_texts(self.shelf):
            signs = self.shelf.signs(text)
            for place in (0, 1, 8, signs // 2, signs - 1, signs):
                self.assertEqual(self.asked(stretch_of, text, place, place), "")
        self.assertEqual(self.asked(stretch_of, 0, 0, 0), "")

    def test_no_place(self):
        for text, plain in low_texts(self.shelf):
            for begin, end in stretches_beyond(len(plain)):
                self.refused(NoPlace, stretch_of, self.shelf, text, begin, end)

    def test_no_place_goes_ahead_of_too_long(self):
        for text in long_texts(self.shelf):
            for begin, end in stretches_beyond(self.shelf.signs(text)):
                self.refused(NoPlace, stretch_of, self.shelf, text, begin, end)

    def test_just_ten_thousand_and_one_more(self):
        for text in long_texts(self.shelf):
            signs = self.shelf.signs(text)
            for begin in (0, 1, signs // 3, signs - 10001):
                told = stretch_of(self.shelf, text, begin, begin + 10000)
                self.assertEqual(len(told), 10000)
                for at in (0, 1, 4999, 9998, 9999):
                    self.assertEqual(told[at], sign_by_pieces(self.shelf, text, begin + at))
                self.refused(TooLong, stretch_of, self.shelf, text, begin, begin + 10001)
            self.refused(TooLong, stretch_of, self.shelf, text, 0, signs)
            self.refused(TooLong, stretch_of, self.shelf, text, 1, signs)

    def test_no_piece_goes_ahead(self):
        for turn in range(3):
            for begin, end in ((0, 0), (1, 0), (-1, 3), (0, 10 ** 29), (10 ** 29, 0)):
                self.no_piece(stretch_of, None, begin, end)
            times_itself(self.shelf, "12345678", turn)


class WholeTest(ShelfCase):
    def test_low_texts(self):
        for text, plain in low_texts(self.shelf):
            self.assertEqual(self.asked(whole_text, text), plain)

    def test_the_text_without_signs(self):
        self.assertEqual(self.asked(whole_text, 0), "")
        self.shelf.leaf("a")
        self.assertEqual(self.asked(whole_text, 0), "")

    def test_just_ten_thousand_and_one_more(self):
        chance = random.Random(15)
        for signs in (9999, 10000):
            plain = drawn_plain(chance, signs)
            self.assertEqual(self.asked(whole_text, built(self.shelf, plain)), plain)
        text = built(self.shelf, plain)
        self.refused(TooLong, whole_text, self.shelf, joined(self.shelf, text, self.shelf.leaf("a")))
        self.refused(TooLong, whole_text, self.shelf, joined(self.shelf, text, text))
        for text in long_texts(self.shelf):
            self.refused(TooLong, whole_text, self.shelf, text)

    def test_no_piece(self):
        for turn in range(3):
            self.no_piece(whole_text, None)
            times_itself(self.shelf, "12345678", turn)


if __name__ == "__main__":
    unittest.main()
