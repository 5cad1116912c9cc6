"""Points 2, 4, 5, 22 and 60: texts joined, built and repeated."""

import random
import unittest

from skeinwood.errors import NoPlace, NoText, TooLong
from skeinwood.heights import leanest, most_height
from skeinwood.joining import built, joined, repeated
from skeinwood.shelves import Shelf
from tests.helper import (
    MOST, NOT_PLAIN, ShelfCase, drawn_plain, pieces_of, reads, sign_by_pieces, some_text, spread, times_itself)


class JoinCase(ShelfCase):
    def most_pieces(self, one, other):
        height = max(self.shelf.height(one), self.shelf.height(other))
        return 0 if 0 in (one, other) else 16 * (height + 1)

    def join(self, one, other):
        """Join two texts, with all that is promised but what the new text reads as."""
        text = self.done(self.most_pieces(one, other), joined, one, other)
        self.assertIs(type(text), int)
        self.assertEqual(self.shelf.signs(text), self.shelf.signs(one) + self.shelf.signs(other))
        self.assertEqual(self.shelf.ends(text), self.shelf.ends(one) + self.shelf.ends(other))
        if text != 0:
            self.assertLessEqual(self.shelf.height(text), most_height(self.shelf.signs(text)))
        return text

    def join_long(self, one, other, chance):
        text = self.join(one, other)
        signs, more = self.shelf.signs(one), self.shelf.signs(other)
        places = {0, signs - 1, signs, signs + more - 1} | {chance.randrange(signs + more) for turn in range(6)}
        places |= {place for place in range(signs - 12, signs + 12)}
        for place in sorted(places):
            if 0 <= place < signs:
                self.assertEqual(sign_by_pieces(self.shelf, text, place), sign_by_pieces(self.shelf, one, place))
            elif signs <= place < signs + more:
                wish = sign_by_pieces(self.shelf, other, place - signs)
                self.assertEqual(sign_by_pieces(self.shelf, text, place), wish)
        return text


class JoinedTest(JoinCase):
    def test_leaves_of_every_length(self):
        for one in range(1, 9):
            for other in range(1, 9):
                self.shelf = Shelf()
                text = self.join(self.shelf.leaf("abcdefgh"[:one]), self.shelf.leaf("ijklmnop"[:other]))
                self.assertEqual(reads(self.shelf, text), "abcdefgh"[:one] + "ijklmnop"[:other])
                self.sound()

    def test_with_the_text_without_signs(self):
        texts = [0, self.shelf.leaf("a"), times_itself(self.shelf, "12345678", 40), leanest(self.shelf, 82)]
        ahead = pieces_of(self.shelf)
        for text in texts:
            self.assertEqual(self.join(0, text), text)
            self.assertEqual(self.join(text, 0), text)
        self.assertEqual(pieces_of(self.shelf), ahead)

    def test_drawn_texts_of_all_lengths(self):
        for seed in range(12):
            self.shelf = Shelf()
            chance = random.Random(seed)
            lengths = [0, 1, 2, 5, 8, 9, 10, 16, 17, 31, 60, 120]
            plains = [drawn_plain(chance, signs) for signs in lengths]
            texts = [some_text(self.shelf, chance, plain) for plain in plains]
            for one, plain in zip(texts, plains):
                for other, more in zip(texts, plains):
                    self.assertEqual(reads(self.shelf, self.join(one, other)), plain + more)
            self.assertEqual([reads(self.shelf, text) for text in texts], plains)
            self.sound()

    def test_long_rows_of_joining(self):
        for seed in range(10):
            self.shelf = Shelf()
            chance = random.Random(seed)
            plain = {0: ""}
            for length in range(1, 9):
                wish = drawn_plain(chance, length)
                plain[self.shelf.leaf(wish)] = wish
            for turn in range(150):
                one, other = chance.choice(sorted(plain)), chance.choice(sorted(plain))
                if len(plain[one] + plain[other]) < 2000:
                    wish = plain[one] + plain[other]
                    self.assertEqual(plain.setdefault(self.join(one, other), wish), wish)
            for text in plain:
                self.assertEqual(reads(self.shelf, text), plain[text])
            self.sound()

    def test_sign_by_sign_at_either_end(self):
        plain = drawn_plain(random.Random(4), 300)
        for behind in (True, False):
            self.shelf = Shelf()
            text, wish = 0, ""
            for sign in plain:
                leaf = self.shelf.leaf(sign)
                wish = wish + sign if behind else sign + wish
                text = self.join(text, leaf) if behind else self.join(leaf, text)
                self.assertEqual(reads(self.shelf, text), wish)
            self.sound()

    def test_equal_and_unlike_heights_of_lean_texts(self):
        chance = random.Random(6)
        for height in (0, 1, 2, 3, 5, 8, 20, 50, 79, 80):
            for other in (0, 1, 2, 3, 4, 6, 11, 40, 78, 80):
                self.shelf = Shelf()
                one, two = leanest(self.shelf, height), leanest(self.shelf, other)
                self.join_long(one, two, chance)
                self.join_long(two, one, chance)
                self.sound()

    def test_lean_texts_read_out(self):
        for height in range(9):
            for other in range(9):
                self.shelf = Shelf()
                one, two = leanest(self.shelf, height), leanest(self.shelf, other)
                wish = reads(self.shelf, one) + reads(self.shelf, two)
                self.assertEqual(reads(self.shelf, self.join(one, two)), wish)
                self.sound()

    def test_very_long_texts(self):
        chance = random.Random(7)
        makers = [
            lambda: times_itself(self.shelf, "12345\n78", 55), lambda: times_itself(self.shelf, "\n2345", 3),
            lambda: times_itself(self.shelf, "abcde", 56), lambda: spread(self.shelf, 10 ** 17 + 1),
            lambda: spread(self.shelf, 10 ** 17 + 3, small_first=True), lambda: self.shelf.leaf("z"),
            lambda: spread(self.shelf, 25), lambda: spread(self.shelf, 65, small_first=True),
        ]
        for one in makers:
            for other in makers:
                self.shelf = Shelf()
                self.join_long(one(), other(), chance)
                self.sound()

    def test_small_leaves_where_high_and_low_texts_meet(self):
        chance = random.Random(8)
        for signs in (9, 17, 33, 8 * 2 ** 9 + 1, 8 * 2 ** 30 + 1, 10 ** 17 + 1):
            for more in (9, 25, 8 * 2 ** 7 + 1, 8 * 2 ** 40 + 1, 10 ** 17 + 9):
                self.shelf = Shelf()
                one, other = spread(self.shelf, signs), spread(self.shelf, more, small_first=True)
                text = self.join_long(one, other, chance)
                self.join_long(text, text, chance)
                self.sound()

    def test_just_the_most_signs(self):
        half = spread(self.shelf, MOST // 2)
        self.assertEqual(self.shelf.signs(self.join(half, half)), MOST)
        less, one = spread(self.shelf, MOST - 1), self.shelf.leaf("x")
        chance = random.Random(9)
        self.join_long(less, one, chance)
        self.join_long(one, less, chance)
        self.join_long(spread(self.shelf, MOST - 9), spread(self.shelf, 9, small_first=True), chance)
        most = spread(self.shelf, MOST)
        self.assertEqual((self.join(most, 0), self.join(0, most)), (most, most))
        self.sound()

    def test_too_long(self):
        most, one = spread(self.shelf, MOST), self.shelf.leaf("x")
        less, full = spread(self.shelf, MOST - 7, small_first=True), self.shelf.leaf("12345678")
        for text, other in ((most, one), (one, most), (most, most), (less, full), (full, less), (less, most)):
            self.refused(TooLong, joined, self.shelf, text, other)
        half = spread(self.shelf, MOST // 2)
        more = spread(self.shelf, MOST // 2 + 1)
        self.refused(TooLong, joined, self.shelf, half, more)
        self.refused(TooLong, joined, self.shelf, more, half)

    def test_no_piece_goes_ahead(self):
        for turn in range(3):
            self.no_piece(joined, None, 0)
            self.no_piece(joined, 0, None)
            self.no_piece(joined, None, None)
            most = spread(self.shelf, MOST - turn)
            self.no_piece(joined, None, most)
            self.no_piece(joined, most, None)
            self.no_piece(joined, None, 1)
            self.no_piece(joined, 1, None)

    def test_the_same_with_more_pieces_there(self):
        one, other = leanest(self.shelf, 9), leanest(self.shelf, 20)
        pair = joined(self.shelf, one, other), joined(self.shelf, other, one)
        built(self.shelf, "something else\n" * 50)
        leanest(self.shelf, 30)
        many = self.shelf.many()
        self.assertEqual((joined(self.shelf, one, other), joined(self.shelf, other, one)), pair)
        self.assertEqual(self.shelf.many(), many)


class BuiltTest(ShelfCase):
    def build(self, plain):
        text = self.done(None, built, plain)
        self.assertIs(type(text), int)
        self.assertEqual(reads(self.shelf, text), plain)
        self.assertEqual((self.shelf.signs(text), self.shelf.ends(text)), (len(plain), plain.count("\n")))
        return text

    def test_the_text_without_signs(self):
        self.assertEqual(self.build(""), 0)
        self.assertEqual(self.shelf.many(), 0)

    def test_every_length_on_a_new_shelf_and_on_one(self):
        one = Shelf()
        chance = random.Random(2)
        for signs in range(300):
            plain = drawn_plain(chance, signs)
            for self.shelf in (Shelf(), one):
                self.build(plain)
                self.sound()

    def test_ordinary_texts(self):
        for plain in ("Skein, wood.\n", "one\ntwo\n\nfour", "\n" * 30, " " * 17, "a" * 1000, "\\n\\\\", "~ " * 40):
            self.build(plain)
        self.sound()

    def test_just_ten_thousand_signs(self):
        for plain in ("x" * 10000, drawn_plain(random.Random(5), 10000), drawn_plain(random.Random(5), 9999)):
            self.build(plain)
        self.sound()

    def test_too_long(self):
        for turn in range(2):
            for signs in (10001, 10002, 16000, 20000):
                self.refused(TooLong, built, self.shelf, "x" * signs)
                self.refused(TooLong, built, self.shelf, drawn_plain(random.Random(signs), signs))
            built(self.shelf, "x" * 100)

    def test_no_plain_text(self):
        for turn in range(2):
            for thing in NOT_PLAIN:
                self.refused(NoText, built, self.shelf, thing)
            for thing in ("12345678\t", "\t12345678", "x" * 9999 + "\t", "x" * 10001 + "\t"):
                self.refused(NoText, built, self.shelf, thing)
            built(self.shelf, "x" * 100)

    def test_the_same_with_more_pieces_there(self):
        texts = {signs: built(self.shelf, "abcdefghijk" * signs) for signs in range(40)}
        leanest(self.shelf, 30)
        many = self.shelf.many()
        for signs in texts:
            self.assertEqual(built(self.shelf, "abcdefghijk" * signs), texts[signs])
        self.assertEqual(self.shelf.many(), many)


class RepeatedTest(ShelfCase):
    def repeat(self, text, many):
        told = self.done(None, repeated, text, many)
        self.assertIs(type(told), int)
        self.assertEqual(self.shelf.signs(told), self.shelf.signs(text) * many)
        self.assertEqual(self.shelf.ends(told), self.shelf.ends(text) * many)
        return told

    def repeat_long(self, text, many, chance):
        told = self.repeat(text, many)
        length = self.shelf.signs(text)
        signs = length * many
        places = [0, signs - 1, length - 1, length % signs, signs // 2]
        for place in places + [chance.randrange(signs) for turn in range(20)]:
            wish = sign_by_pieces(self.shelf, text, place % length)
            self.assertEqual(sign_by_pieces(self.shelf, told, place), wish)

    def test_few_times(self):
        chance = random.Random(3)
        for signs in (1, 2, 3, 4, 5, 7, 8, 9, 13, 40):
            self.shelf = Shelf()
            plain = drawn_plain(chance, signs)
            text = some_text(self.shelf, chance, plain)
            for many in range(40):
                self.assertEqual(reads(self.shelf, self.repeat(text, many)), plain * many)
            self.assertEqual(reads(self.shelf, text), plain)
            self.sound()

    def test_not_at_all_and_once(self):
        texts = [self.shelf.leaf("a"), leanest(self.shelf, 82), spread(self.shelf, MOST)]
        for text in texts:
            self.assertEqual(self.repeat(text, 0), 0)
            self.repeat_long(text, 1, random.Random(text))
        self.sound()

    def test_up_to_just_the_most_signs(self):
        chance = random.Random(4)
        for plain in ("a", "\n", "ab", "a\nb", "four", "five\n", "7\nsigns", "eight si", "\n23456789", "eleven sign"):
            for signs in (10 ** 4, 10 ** 9 + 7, 10 ** 17 + 1, MOST):
                self.shelf = Shelf()
                text = some_text(self.shelf, chance, plain)
                self.repeat_long(text, signs // len(plain), chance)
                self.sound()

    def test_just_the_most_signs(self):
        for signs in (1, 2, 4, 5, 8, 10, 1000, 5 ** 10, 10 ** 17, 5 * 10 ** 17, MOST):
            text = spread(self.shelf, signs)
            self.repeat_long(text, MOST // signs, random.Random(signs))
            self.refused(TooLong, repeated, self.shelf, text, MOST // signs + 1)
        self.sound()

    def test_lean_texts(self):
        chance = random.Random(5)
        for height in (1, 2, 3, 4, 7, 20, 41, 70, 81):
            self.shelf = Shelf()
            text = leanest(self.shelf, height)
            for many in (2, 3, 7, MOST // self.shelf.signs(text)):
                if many * self.shelf.signs(text) <= MOST:
                    self.repeat_long(text, many, chance)
            self.sound()

    def test_the_text_without_signs_however_often(self):
        for turn in range(2):
            for many in (0, 1, 2, 1000, MOST, MOST + 1, 10 ** 29, 10 ** 30 - 1):
                self.assertEqual(self.repeat(0, many), 0)
            self.assertEqual(self.shelf.many(), turn)
            self.shelf.leaf("a")

    def test_no_place(self):
        texts = [0, self.shelf.leaf("a"), leanest(self.shelf, 82), spread(self.shelf, MOST)]
        for text in texts:
            for many in (-1, -2, -MOST, -(10 ** 29)):
                self.refused(NoPlace, repeated, self.shelf, text, many)

    def test_too_long(self):
        for signs in (1, 3, 7, 8, 9, 100, 10 ** 9, MOST // 2, MOST // 2 + 1, MOST - 1, MOST):
            text = spread(self.shelf, signs)
            for many in (MOST // signs + 1, MOST // signs + 2, MOST + 1, 10 ** 29, 10 ** 30 - 1):
                self.refused(TooLong, repeated, self.shelf, text, many)

    def test_no_piece_goes_ahead(self):
        for turn in range(3):
            for many in (0, 1, 5, -1, 10 ** 29, -(10 ** 29)):
                self.no_piece(repeated, None, many)
            spread(self.shelf, MOST - turn)

    def test_the_same_with_more_pieces_there(self):
        text = built(self.shelf, "abc\ndef\nghi\n")
        ahead = {many: repeated(self.shelf, text, many) for many in (3, 10, 77, 10 ** 15)}
        leanest(self.shelf, 30)
        pieces = self.shelf.many()
        for many in ahead:
            self.assertEqual(repeated(self.shelf, text, many), ahead[many])
        self.assertEqual(self.shelf.many(), pieces)


class RowsOfDeedsTest(JoinCase):
    def make(self, shelf, seed):
        chance = random.Random(seed)
        texts = [0]
        for turn in range(60):
            pick = chance.randrange(3)
            if pick == 0:
                texts.append(built(shelf, drawn_plain(chance, chance.randrange(60))))
            elif pick == 1:
                texts.append(joined(shelf, chance.choice(texts[-9:]), chance.choice(texts[-9:])))
            else:
                texts.append(repeated(shelf, chance.choice(texts[-9:]), chance.randrange(4)))
        return texts

    def test_the_same_deeds_on_two_shelves_tell_the_same(self):
        for seed in range(5):
            one, other = Shelf(), Shelf()
            self.assertEqual(self.make(one, seed), self.make(other, seed))
            self.assertEqual(pieces_of(one), pieces_of(other))
            many = one.many()
            self.make(one, seed)
            self.assertEqual(one.many(), many)


if __name__ == "__main__":
    unittest.main()
