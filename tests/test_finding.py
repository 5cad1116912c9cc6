"""Points 2, 4, 5 and 100: how often a word stands in a text, and where."""

import random
import unittest

from skeinwood.cutting import cut_at, kept_part
from skeinwood.errors import NoPlace, NoText
from skeinwood.finding import count_of, place_of
from skeinwood.heights import leanest
from skeinwood.joining import built, joined, repeated
from tests.helper import (
    MOST, NOT_PLAIN, ShelfCase, by_chunks, drawn_plain, long_texts, made_otherwise, part_by_pieces, reads, some_text,
    spread, times_itself,
)

NO_WORDS = NOT_PLAIN + ["", "123456789", "a" * 9, "\n" * 9, "a" * 20000, "1234567\t", "\t1234567", 8, 10 ** 29]


def places_by_signs(plain, word):
    """Each place at which the word stands in the plain text."""
    return [place for place in range(len(plain)) if plain[place:place + len(word)] == word]


def words_of(chance, plain, many):
    """Words of one to eight signs that stand in the plain text, and some like them that may stand nowhere."""
    words = set()
    for turn in range(many):
        begin = chance.randrange(len(plain))
        word = plain[begin:begin + chance.randint(1, 8)]
        at = chance.randrange(len(word))
        words |= {word, word[:at] + "~" + word[at + 1:], word[::-1]}
    return sorted(words)


class FindingCase(ShelfCase):
    def found(self, text, word, places):
        """The word stands at just these places, and at no other one."""
        told = self.asked(count_of, text, word)
        self.assertEqual((told, type(told)), (len(places), int))
        for k, place in enumerate(places):
            self.assertEqual(self.asked(place_of, text, word, k), place)
        self.ends_there(text, word, len(places))

    def ends_there(self, text, word, count):
        for k in (-1, -2, -count, -count - 1, count, count + 1, count + 7, 10 ** 29, -(10 ** 29)):
            if not 0 <= k < count:
                self.refused(NoPlace, place_of, self.shelf, text, word, k)

    def by_signs(self, text, plain, words):
        self.assertEqual(reads(self.shelf, text), plain)
        for word in words:
            self.found(text, word, places_by_signs(plain, word))


class LowTest(FindingCase):
    def test_words_of_drawn_texts(self):
        chance = random.Random(1)
        for signs in (1, 2, 7, 8, 9, 10, 16, 17, 26, 40, 75):
            for letters in ("a", "ab", "ab\n ~\\"):
                plain = drawn_plain(chance, signs, letters)
                for text in (made_otherwise(self.shelf, chance, plain), some_text(self.shelf, chance, plain)):
                    self.by_signs(text, plain, words_of(chance, plain, 6))

    def test_each_stretch_of_a_text_of_unlike_signs(self):
        chance = random.Random(2)
        plain = "abcdefghijklmnopqrstuvwxyz"
        for turn in range(3):
            text = some_text(self.shelf, chance, plain)
            for begin in range(26):
                for end in range(begin + 1, min(begin + 8, 26) + 1):
                    self.found(text, plain[begin:end], [begin])
                    self.found(text, plain[begin:end - 1] + "~", [])

    def test_over_the_seam_of_each_leaf_and_fork(self):
        leaves = [self.shelf.leaf(plain) for plain in ("a", "bcdefghi", "j", "klmnopqr")]
        pair, further = self.shelf.fork(leaves[0], leaves[1]), self.shelf.fork(leaves[2], leaves[3])
        text = self.shelf.fork(pair, further)
        self.found(text, "hij", [7])
        self.found(text, "ij", [8])
        self.found(text, "jk", [9])
        self.found(text, "ijk", [8])
        self.found(text, "ijklmnop", [8])
        self.found(text, "ghijklmn", [6])
        self.found(text, "abcdefgh", [0])
        self.found(text, "klmnopqr", [10])
        self.found(text, "ik", [])

    def test_words_that_stand_over_one_another(self):
        chance = random.Random(3)
        for signs in (1, 7, 8, 9, 17, 30, 64):
            for plain in ("a" * signs, ("ab" * signs)[:signs], ("aab" * signs)[:signs], ("\n" * signs)):
                words = {(plain * 9)[begin:begin + length] for begin in range(3) for length in range(1, 9)}
                text = some_text(self.shelf, chance, plain)
                self.by_signs(text, plain, sorted(words))
        self.found(built(self.shelf, "a" * 30), "aaaaaaaa", list(range(23)))
        self.found(built(self.shelf, "abababa"), "aba", [0, 2, 4])

    def test_line_feeds_blanks_and_backslashes(self):
        chance = random.Random(4)
        plain = "\n\n a\\n \n\\\n  \n\n\n\\n\n ~\n\n"
        for turn in range(4):
            text = some_text(self.shelf, chance, plain)
            self.by_signs(text, plain, ["\n", "\n\n", "\\n", "\\", " ", "  ", " \n", "\n ", "~\n\n", "\\\n", "n"])

    def test_the_whole_text_and_longer_words(self):
        for length in range(1, 9):
            text = built(self.shelf, "12345678"[:length])
            self.found(text, "12345678"[:length], [0])
            for longer in range(length + 1, 9):
                self.found(text, "12345678"[:longer], [])

    def test_the_text_without_signs(self):
        for word in ("a", "\n", " ", "12345678"):
            self.found(0, word, [])
        built(self.shelf, "some pieces, and more of them\n")
        self.found(0, "s", [])

    def test_ten_thousand_signs(self):
        chance = random.Random(5)
        plain = drawn_plain(chance, 10000, "ab\n")
        text = by_chunks(self.shelf, chance, plain)
        for word in ("a", "ab", "ab\na", "\n\n\n\n", plain[-8:], plain[:8], plain[5000:5007], "~"):
            places = places_by_signs(plain, word)
            self.assertEqual(self.asked(count_of, text, word), len(places))
            for k in {0, 1, len(places) // 3, len(places) // 2, len(places) - 2, len(places) - 1}:
                if 0 <= k < len(places):
                    self.assertEqual(self.asked(place_of, text, word, k), places[k])
            self.ends_there(text, word, len(places))


class LongTest(FindingCase):
    def again_and_again(self, plain, many, word):
        """The word's places in a plain text that comes so many times: their number, and one by one."""
        period = len(plain)
        rows = plain * (2 + 8 // period + 1)
        first = [place for place in range(period) if rows.startswith(word, place)]
        last = period * many - len(word)
        begins = [(many - turn) * period for turn in range(1, min(many, 9) + 1)]
        beyond = sum(begin + place > last for begin in begins for place in first)
        return len(first) * many - beyond, lambda k: k // len(first) * period + first[k % len(first)]

    def test_repeated_texts(self):
        chance = random.Random(11)
        for plain in ("a", "aab", "some words\n", "\n\n", "abcdefgh", "one row\nand another one\n", "12345678" * 20):
            for many in (1, 2, 3, 50, 12345678901, MOST // len(plain)):
                text = repeated(self.shelf, made_otherwise(self.shelf, chance, plain), many)
                for word in words_of(chance, plain * 9, 5):
                    count, kth = self.again_and_again(plain, many, word)
                    self.assertEqual(self.asked(count_of, text, word), count)
                    for k in {0, 1, count // 3, count // 2, count - 2, count - 1} | {chance.randrange(max(count, 1))}:
                        if 0 <= k < count:
                            self.assertEqual(self.asked(place_of, text, word, k), kth(k))
                self.ends_there(text, word, count)

    def test_by_its_making_the_same_as_by_its_signs(self):
        for plain in ("a", "aab", "some words\n", "abcdefgh"):
            for many in (1, 2, 3, 7):
                for word in (plain[:8], (plain * 9)[1:9], "a", "aa", "s", "\ns", "h", "ha"):
                    count, kth = self.again_and_again(plain, many, word)
                    self.assertEqual([kth(k) for k in range(count)], places_by_signs(plain * many, word))

    def test_joined_ones(self):
        chance = random.Random(12)
        texts = [times_itself(self.shelf, "a\nbcdefg", 55), times_itself(self.shelf, "\n5678", 50),
                 spread(self.shelf, 10 ** 17 + 3), spread(self.shelf, 10 ** 17 + 5, small_first=True),
                 leanest(self.shelf, 75), self.shelf.leaf("b"), built(self.shelf, "a\nb" * 20)]
        for one in texts:
            for other in texts:
                text = joined(self.shelf, one, other)
                seam = self.shelf.signs(one)
                begin, end = max(seam - 7, 0), min(seam + 7, self.shelf.signs(text))
                near = part_by_pieces(self.shelf, text, begin, end)
                for word in words_of(chance, near, 3) + ["a", "b", "\n"]:
                    over = [begin + place for place in places_by_signs(near, word)
                            if begin + place < seam < begin + place + len(word)]
                    ahead, behind = count_of(self.shelf, one, word), count_of(self.shelf, other, word)
                    self.assertEqual(self.asked(count_of, text, word), ahead + len(over) + behind)
                    for k, place in enumerate(over):
                        self.assertEqual(self.asked(place_of, text, word, ahead + k), place)
                    if ahead:
                        wish = place_of(self.shelf, one, word, ahead - 1)
                        self.assertEqual(self.asked(place_of, text, word, ahead - 1), wish)
                    if behind:
                        wish = seam + place_of(self.shelf, other, word, 0)
                        self.assertEqual(self.asked(place_of, text, word, ahead + len(over)), wish)

    def test_as_many_stand_ahead_of_the_kth_place(self):
        chance = random.Random(13)
        for text in long_texts(self.shelf):
            signs = self.shelf.signs(text)
            for turn in range(4):
                begin = chance.randrange(signs - 8)
                word = part_by_pieces(self.shelf, text, begin, begin + chance.randint(1, 8))
                count = self.asked(count_of, text, word)
                self.assertGreater(count, 0)
                for k in {0, count - 1, chance.randrange(count)}:
                    place = self.asked(place_of, text, word, k)
                    self.assertEqual(part_by_pieces(self.shelf, text, place, place + len(word)), word)
                    ahead = kept_part(self.shelf, text, 0, place + len(word) - 1)
                    self.assertEqual(count_of(self.shelf, ahead, word), k)
                self.ends_there(text, word, count)

    def test_cut_ones(self):
        chance = random.Random(14)
        text = repeated(self.shelf, built(self.shelf, "some words\n"), MOST // 11)
        for turn in range(30):
            at = chance.randrange(1, self.shelf.signs(text))
            one, other = cut_at(self.shelf, text, at)
            for word in ("some", "words\nso", "s", "\n", " "):
                over = [place for place in range(max(at - len(word) + 1, 0), at)
                        if part_by_pieces(self.shelf, text, place, min(place + len(word), MOST // 11 * 11)) == word]
                both = count_of(self.shelf, one, word) + count_of(self.shelf, other, word)
                self.assertEqual(count_of(self.shelf, text, word), both + len(over))

    def test_a_word_that_stands_nowhere(self):
        for text in long_texts(self.shelf):
            for word in ("~", "a~", "\n\n~", "12345678"):
                self.assertEqual(self.asked(count_of, text, word), 0)
                self.ends_there(text, word, 0)


class RefusedTest(FindingCase):
    def test_what_is_no_word(self):
        for text in (0, self.shelf.leaf("a"), built(self.shelf, "123456789a"), spread(self.shelf, MOST)):
            for wrong in NO_WORDS:
                self.refused(NoText, count_of, self.shelf, text, wrong)
                for k in (0, -1, 1, 10 ** 29, -(10 ** 29)):
                    self.refused(NoText, place_of, self.shelf, text, wrong, k)

    def test_no_piece_goes_ahead(self):
        for turn in range(3):
            for word in NO_WORDS + ["a", "~", "12345678"]:
                self.no_piece(count_of, None, word)
                for k in (0, -1, 10 ** 29):
                    self.no_piece(place_of, None, word, k)
            times_itself(self.shelf, "12345678", turn)


if __name__ == "__main__":
    unittest.main()
