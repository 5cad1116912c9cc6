"""Points 2, 4, 5, 22 and 70: texts cut, put into one another, and stretches taken out and kept."""

import random
import unittest

from skeinwood.cutting import cut_at, kept_part, put_in, taken_out
from skeinwood.errors import NoPlace, TooLong
from skeinwood.heights import leanest, most_height
from skeinwood.joining import built, joined, repeated
from skeinwood.shelves import Shelf
from tests.helper import (
    MOST, ShelfCase, drawn_plain, pieces_of, reads, sign_by_pieces, some_text, spread, times_itself)

PLAINS = [
    "a", "12345678", "123456789", "one\ntwo\n", "abcdefghijklmnopqrstuvwxyz", "\n" * 20, "Skein, wood.\nA row.\n" * 3,
]
MAKERS = [
    lambda shelf: spread(shelf, MOST - 10 ** 17 - 5), lambda shelf: spread(shelf, 10 ** 17 + 1, small_first=True),
    lambda shelf: times_itself(shelf, "a\nbcdefg", 55), lambda shelf: times_itself(shelf, "\n5678", 50),
    lambda shelf: leanest(shelf, 82), lambda shelf: leanest(shelf, 59),
    lambda shelf: repeated(shelf, built(shelf, "some words\n"), 10 ** 16),
]


class CutCase(ShelfCase):
    def cost(self, each, texts):
        return each * (max(self.shelf.height(text) for text in texts) + 1)

    def bounded(self, text):
        self.assertIs(type(text), int)
        if text != 0:
            self.assertLessEqual(self.shelf.height(text), most_height(self.shelf.signs(text)))

    def cut(self, text, at):
        pair = self.done(self.cost(64, [text]), cut_at, text, at)
        self.assertIs(type(pair), tuple)
        self.assertEqual([self.shelf.signs(part) for part in pair], [at, self.shelf.signs(text) - at])
        self.assertEqual(sum(self.shelf.ends(part) for part in pair), self.shelf.ends(text))
        for part in pair:
            self.bounded(part)
        return pair

    def put(self, text, at, other):
        told = self.done(self.cost(200, [text, other]), put_in, text, at, other)
        self.assertEqual(self.shelf.signs(told), self.shelf.signs(text) + self.shelf.signs(other))
        self.assertEqual(self.shelf.ends(told), self.shelf.ends(text) + self.shelf.ends(other))
        self.bounded(told)
        return told

    def take(self, text, begin, end):
        told = self.done(self.cost(200, [text]), taken_out, text, begin, end)
        self.assertEqual(self.shelf.signs(told), self.shelf.signs(text) - (end - begin))
        self.bounded(told)
        return told

    def keep(self, text, begin, end):
        told = self.done(self.cost(200, [text]), kept_part, text, begin, end)
        self.assertEqual(self.shelf.signs(told), end - begin)
        self.bounded(told)
        return told

    def low_texts(self, seed):
        """Texts of few signs, each with the plain text as which it reads."""
        chance = random.Random(seed)
        for plain in PLAINS + [drawn_plain(chance, signs) for signs in (2, 10, 19, 33)]:
            yield some_text(self.shelf, chance, plain), plain
        for height in range(7):
            text = leanest(self.shelf, height)
            yield text, reads(self.shelf, text)
        yield 0, ""

    def near(self, places, text):
        signs = self.shelf.signs(text)
        return sorted({place + step for place in places for step in range(-9, 10) if 0 <= place + step < signs})

    def places(self, text, chance):
        signs = self.shelf.signs(text)
        return [0, 1, 7, 8, 9, signs // 2, signs - 1, signs] + [chance.randint(0, signs) for turn in range(8)]

    def like(self, text, place, other, at):
        wish = sign_by_pieces(self.shelf, other, at)
        self.assertEqual(sign_by_pieces(self.shelf, text, place), wish)


class LowTest(CutCase):
    def test_cut_at_every_place(self):
        for text, plain in self.low_texts(31):
            for at in range(len(plain) + 1):
                one, other = self.cut(text, at)
                self.assertEqual((reads(self.shelf, one), reads(self.shelf, other)), (plain[:at], plain[at:]))
            self.assertEqual(reads(self.shelf, text), plain)
        self.sound()

    def test_cut_on_a_shelf_of_its_own(self):
        for seed in range(4):
            for text, plain in self.low_texts(seed):
                kept, pieces = self.shelf, pieces_of(self.shelf)
                for at in range(0, len(plain) + 1, 3):
                    self.shelf = Shelf()
                    for piece in pieces:
                        self.shelf.leaf(piece[1]) if piece[0] == "leaf" else self.shelf.fork(*piece[1:])
                    self.cut(text, at)
                    self.sound()
                self.shelf = kept

    def test_cut_at_the_ends(self):
        for text, plain in self.low_texts(32):
            ahead = self.shelf.many()
            self.assertEqual([reads(self.shelf, part) for part in self.cut(text, 0)], ["", plain])
            self.assertEqual([reads(self.shelf, part) for part in self.cut(text, len(plain))], [plain, ""])
            self.assertEqual((self.cut(text, 0)[0], self.cut(text, len(plain))[1]), (0, 0))
            self.assertEqual(self.shelf.many(), ahead)

    def test_put_in_at_every_place(self):
        for text, plain in self.low_texts(33):
            for more in ("", "x", "\n23", "12345678", "put in here\nand there", "y" * 70):
                other = built(self.shelf, more)
                for at in range(len(plain) + 1):
                    told = self.put(text, at, other)
                    self.assertEqual(reads(self.shelf, told), plain[:at] + more + plain[at:])
                self.assertEqual((reads(self.shelf, text), reads(self.shelf, other)), (plain, more))
        self.sound()

    def test_put_into_itself(self):
        for text, plain in self.low_texts(34):
            for at in range(len(plain) + 1):
                self.assertEqual(reads(self.shelf, self.put(text, at, text)), plain[:at] + plain + plain[at:])
        self.sound()

    def test_every_stretch_taken_out_and_kept(self):
        for text, plain in self.low_texts(35):
            for begin in range(0, len(plain) + 1, 1 + len(plain) // 40):
                for end in range(begin, len(plain) + 1, 1 + len(plain) // 30):
                    self.assertEqual(reads(self.shelf, self.take(text, begin, end)), plain[:begin] + plain[end:])
                    self.assertEqual(reads(self.shelf, self.keep(text, begin, end)), plain[begin:end])
            self.assertEqual(reads(self.shelf, text), plain)
        self.sound()

    def test_nothing_and_all(self):
        for text, plain in self.low_texts(36):
            signs = len(plain)
            self.assertEqual(self.take(text, 0, signs), 0)
            self.assertEqual(reads(self.shelf, self.keep(text, 0, signs)), plain)
            for place in range(signs + 1):
                self.assertEqual(self.keep(text, place, place), 0)
                self.assertEqual(reads(self.shelf, self.take(text, place, place)), plain)
        self.sound()


class RefusedTest(CutCase):
    def texts(self):
        yield from [text for text, plain in self.low_texts(37)]
        yield from [maker(self.shelf) for maker in MAKERS]

    def test_cut_and_put_in_at_no_place(self):
        leaf = self.shelf.leaf("x")
        for text in self.texts():
            signs = self.shelf.signs(text)
            for at in (-1, -2, -signs - 1, signs + 1, signs + 2, 2 * signs + 1, 10 ** 29, -(10 ** 29)):
                self.refused(NoPlace, cut_at, self.shelf, text, at)
                self.refused(NoPlace, put_in, self.shelf, text, at, leaf)
                self.refused(NoPlace, put_in, self.shelf, text, at, 0)
                self.refused(NoPlace, put_in, self.shelf, text, at, text)

    def test_no_stretch(self):
        for text in self.texts():
            signs = self.shelf.signs(text)
            far = 10 ** 29
            pairs = [(-1, 0), (-1, signs), (0, signs + 1), (signs, signs + 1), (signs + 1, signs + 1), (1, 0), (0, -1),
                     (signs + 1, signs), (-1, -1), (0, far), (-far, 0), (far, far), (far, 0), (signs, signs - 1)]
            for begin, end in pairs:
                if not 0 <= begin <= end <= signs:
                    self.refused(NoPlace, taken_out, self.shelf, text, begin, end)
                    self.refused(NoPlace, kept_part, self.shelf, text, begin, end)

    def test_put_in_too_long(self):
        most, leaf = spread(self.shelf, MOST), self.shelf.leaf("x")
        less = spread(self.shelf, MOST - 7, small_first=True)
        full = self.shelf.leaf("12345678")
        for text, other in ((most, leaf), (leaf, most), (most, most), (less, full), (full, less)):
            for at in (0, 1, self.shelf.signs(text) // 2, self.shelf.signs(text)):
                self.refused(TooLong, put_in, self.shelf, text, at, other)
            for at in (-1, self.shelf.signs(text) + 1, 10 ** 29):
                self.refused(NoPlace, put_in, self.shelf, text, at, other)

    def test_put_in_up_to_just_the_most_signs(self):
        less, seven = spread(self.shelf, MOST - 7, small_first=True), self.shelf.leaf("1234567")
        most = spread(self.shelf, MOST)
        for at in (0, 1, 3 * 10 ** 17 + 5, MOST - 8, MOST - 7):
            self.assertEqual(self.shelf.signs(self.put(less, at, seven)), MOST)
        for at in (0, 3, 7):
            self.assertEqual(self.shelf.signs(self.put(seven, at, less)), MOST)
        for at in (0, 5 ** 18, MOST):
            self.assertEqual(self.shelf.signs(self.put(most, at, 0)), MOST)
        self.assertEqual(self.shelf.signs(self.put(0, 0, most)), MOST)
        self.sound()

    def test_no_piece_goes_ahead(self):
        for turn in range(3):
            texts = [0] + ([spread(self.shelf, MOST), 1] if turn else [])
            for at in (0, 1, -1, 10 ** 29, -(10 ** 29)):
                self.no_piece(cut_at, None, at)
                for end in (0, -1, 5, 10 ** 29):
                    self.no_piece(taken_out, None, at, end)
                    self.no_piece(kept_part, None, at, end)
                for text in texts + [None]:
                    self.no_piece(put_in, None, at, text)
                    self.no_piece(put_in, text, at, None)


class LongTest(CutCase):
    def test_cut(self):
        chance = random.Random(41)
        for maker in MAKERS:
            self.shelf = Shelf()
            text = maker(self.shelf)
            for at in self.places(text, chance):
                one, other = self.cut(text, at)
                for place in self.near([0, at // 2, at], one):
                    self.like(one, place, text, place)
                for place in self.near([0, self.shelf.signs(other) // 2, self.shelf.signs(other)], other):
                    self.like(other, place, text, at + place)
            self.sound()

    def test_put_in(self):
        chance = random.Random(42)
        for maker in MAKERS:
            for other_maker in MAKERS[1:2] + MAKERS[3:4] + [lambda shelf: built(shelf, "put in\n"), lambda shelf: 0]:
                self.shelf = Shelf()
                text, other = maker(self.shelf), other_maker(self.shelf)
                more = self.shelf.signs(other)
                for at in self.places(text, chance)[::2]:
                    told = self.put(text, at, other)
                    for place in self.near([0, at, at + more // 2, at + more, self.shelf.signs(told)], told):
                        if place < at:
                            self.like(told, place, text, place)
                        elif place < at + more:
                            self.like(told, place, other, place - at)
                        else:
                            self.like(told, place, text, place - more)
                self.sound()

    def test_taken_out_and_kept(self):
        chance = random.Random(43)
        for maker in MAKERS:
            self.shelf = Shelf()
            text = maker(self.shelf)
            for begin in self.places(text, chance):
                signs = self.shelf.signs(text)
                for end in (begin, min(begin + 5, signs), chance.randint(begin, signs), signs):
                    out, kept = self.take(text, begin, end), self.keep(text, begin, end)
                    for place in self.near([0, begin, self.shelf.signs(out)], out):
                        self.like(out, place, text, place if place < begin else place + end - begin)
                    for place in self.near([0, (end - begin) // 2, end - begin], kept):
                        self.like(kept, place, text, begin + place)
            self.sound()

    def test_every_lean_text(self):
        chance = random.Random(44)
        for height in range(0, 83, 3):
            self.shelf = Shelf()
            text, other = leanest(self.shelf, height), leanest(self.shelf, height // 2)
            for turn in range(4):
                begin = chance.randint(0, self.shelf.signs(text))
                end = chance.randint(begin, self.shelf.signs(text))
                self.cut(text, begin)
                self.take(text, begin, end)
                self.keep(text, begin, end)
                if self.shelf.signs(text) + self.shelf.signs(other) <= MOST:
                    self.put(text, begin, other)
            self.sound()


class RowsOfDeedsTest(CutCase):
    def deed(self, chance, plain):
        """One drawn deed on drawn texts of plain, a dict of what each text reads as: the new text, and how it reads."""
        text, other = chance.choice(sorted(plain)), chance.choice(sorted(plain))
        wish = plain[text]
        begin = chance.randint(0, len(wish))
        end = chance.randint(begin, len(wish))
        pick = chance.randrange(5)
        if pick == 0 and len(wish) + len(plain[other]) < 900:
            return self.put(text, begin, other), wish[:begin] + plain[other] + wish[begin:]
        if pick == 1:
            return self.take(text, begin, end), wish[:begin] + wish[end:]
        if pick == 2:
            return self.keep(text, begin, end), wish[begin:end]
        if pick == 3 and len(wish) + len(plain[other]) < 900:
            return joined(self.shelf, text, other), wish + plain[other]
        return self.cut(text, begin)[1], wish[begin:]

    def test_each_text_reads_as_its_deeds_make_it(self):
        for seed in range(6):
            self.shelf = Shelf()
            chance = random.Random(seed)
            plain = {0: ""}
            for signs in (3, 60, 200):
                wish = drawn_plain(chance, signs)
                plain[built(self.shelf, wish)] = wish
            for turn in range(120):
                text, wish = self.deed(chance, plain)
                self.assertEqual(plain.setdefault(text, wish), wish)
            for text in plain:
                self.assertEqual(reads(self.shelf, text), plain[text])
            self.sound()

    def test_the_same_deeds_on_two_shelves_tell_the_same(self):
        told = []
        for turn in range(2):
            self.shelf = Shelf()
            chance = random.Random(51)
            plain = {0: "", built(self.shelf, "one\ntwo\nthree\n" * 9): "one\ntwo\nthree\n" * 9}
            for step in range(60):
                text, wish = self.deed(chance, plain)
                plain[text] = wish
            told.append((sorted(plain), pieces_of(self.shelf)))
        self.assertEqual(told[0], told[1])

    def test_the_same_with_more_pieces_there(self):
        text, other = leanest(self.shelf, 25), built(self.shelf, "other\n" * 7)
        deeds = [(cut_at, text, 999), (put_in, text, 1234, other)]
        deeds += [(taken_out, text, 7, 4321), (kept_part, text, 77, 8765)]
        ahead = [deed[0](self.shelf, *deed[1:]) for deed in deeds]
        built(self.shelf, "something else\n" * 50)
        leanest(self.shelf, 40)
        many = self.shelf.many()
        self.assertEqual([deed[0](self.shelf, *deed[1:]) for deed in deeds], ahead)
        self.assertEqual(self.shelf.many(), many)


if __name__ == "__main__":
    unittest.main()
