"""Points 2, 4, 5 and 40: the way to a place, and the judge who walks it."""

import random
import unittest

from skeinwood.errors import NoPlace
from skeinwood.heights import leanest
from skeinwood.ways import way_stands, way_to
from tests.helper import MOST, ShelfCase, drawn_plain, reads, some_text, spread, times_itself, way_by_pieces


def other_ways(shelf, way):
    """Lists that are like the way but for one thing."""
    spare = shelf.many() + 1
    found = [[], [0], [spare], way + [way[-1]], way + [way[0]], way + [0], [0] + way, [way[0]] + way, way[::-1]]
    for at in range(len(way)):
        found.append(way[:at] + way[at + 1:])
        found.append(way[:at + 1] + way[at:])
        found.append(way[:at])
        found.append(way[at + 1:])
        for wrong in (0, -1, -way[at], spare, 10 ** 29, way[at] - 1, way[at] + 1):
            found.append(way[:at] + [wrong] + way[at + 1:])
        piece = shelf.piece(way[at])
        if piece[0] == "fork":
            for part in piece[1:]:
                found.append(way[:at + 1] + [part] + way[at + 2:])
                found.append(way[:at + 1] + [part])
    return [other for other in found if other != way]


class WayCase(ShelfCase):
    def places(self, text, seed):
        signs = self.shelf.signs(text)
        chance = random.Random(seed)
        first = self.shelf.signs(self.shelf.first_leaf(text))
        found = {0, signs - 1, signs // 2, (signs - 1) // 2, first - 1, min(first, signs - 1)}
        return sorted(found | {chance.randrange(signs) for turn in range(8)})

    def walked(self, text, place):
        way, sign = way_by_pieces(self.shelf, text, place)
        self.assertEqual(self.asked(way_to, text, place), way)
        self.assertLessEqual(len(way), self.shelf.height(text) + 1)
        self.assertIs(self.asked(way_stands, text, place, way, sign), True)
        return way, sign

    def no_places(self, text):
        signs = self.shelf.signs(text)
        for place in (-1, -2, -signs, -signs - 1, signs, signs + 1, signs + 7, 2 * signs, 10 ** 29, -(10 ** 29)):
            if place != 0 or signs == 0:
                self.refused(NoPlace, way_to, self.shelf, text, place)

    def texts(self):
        chance = random.Random(3)
        yield from [self.shelf.leaf("a"), self.shelf.leaf("12345678"), self.shelf.leaf("\n\n\n")]
        for signs in (9, 10, 17, 30, 80):
            yield some_text(self.shelf, chance, drawn_plain(chance, signs))
        yield times_itself(self.shelf, "a\nbcdefg", 50)
        yield times_itself(self.shelf, "56789", 56)
        yield from [spread(self.shelf, MOST), spread(self.shelf, MOST - 7, small_first=True)]
        yield from [leanest(self.shelf, height) for height in (1, 2, 3, 10, 40, 81, 82)]


class WayToTest(WayCase):
    def test_a_leaf(self):
        leaf = self.shelf.leaf("abc")
        for place in range(3):
            self.assertEqual(self.walked(leaf, place), ([leaf], "abc"[place]))

    def test_forks(self):
        one, two = self.shelf.leaf("12345"), self.shelf.leaf("6789")
        low = self.shelf.fork(one, two)
        high = self.shelf.fork(low, one)
        self.assertEqual([way_to(self.shelf, low, place) for place in (0, 4, 5, 8)],
                         [[low, one], [low, one], [low, two], [low, two]])
        self.assertEqual([way_to(self.shelf, high, place) for place in (0, 4, 5, 8, 9, 13)],
                         [[high, low, one]] * 2 + [[high, low, two]] * 2 + [[high, one]] * 2)

    def test_every_place_of_low_texts(self):
        chance = random.Random(1)
        for signs in (1, 5, 9, 12, 40, 100):
            plain = drawn_plain(chance, signs)
            text = some_text(self.shelf, chance, plain)
            self.assertEqual(reads(self.shelf, text), plain)
            self.assertEqual("".join(self.walked(text, place)[1] for place in range(signs)), plain)

    def test_drawn_places_of_low_and_very_high_texts(self):
        for text in self.texts():
            for place in self.places(text, text):
                with self.subTest(text=text, place=place):
                    self.walked(text, place)

    def test_every_leanest_text(self):
        for height in range(83):
            text = leanest(self.shelf, height)
            for place in self.places(text, height):
                self.walked(text, place)

    def test_the_longest_way_has_one_number_more_than_the_height(self):
        text = leanest(self.shelf, 82)
        self.assertEqual(len(way_to(self.shelf, text, 0)), 83)

    def test_no_place(self):
        for text in self.texts():
            with self.subTest(text=text):
                self.no_places(text)

    def test_the_text_without_signs_has_no_places(self):
        for turn in range(2):
            self.no_places(0)
            for place in (0, 1, -1):
                self.refused(NoPlace, way_to, self.shelf, 0, place)
            self.shelf.leaf("a")

    def test_no_piece_goes_ahead(self):
        for turn in range(3):
            for place in (0, -1, 5, 10 ** 29):
                self.no_piece(way_to, None, place)
            times_itself(self.shelf, "12345678", turn)

    def test_the_asker_may_change_the_list(self):
        text = times_itself(self.shelf, "12345678", 3)
        way = way_to(self.shelf, text, 9)
        kept = list(way)
        way.clear()
        self.assertEqual(way_to(self.shelf, text, 9), kept)

    def test_the_same_with_more_pieces_there(self):
        text = leanest(self.shelf, 30)
        ahead = [way_to(self.shelf, text, place) for place in self.places(text, 5)]
        times_itself(self.shelf, "zzzzz", 20)
        leanest(self.shelf, 40)
        self.assertEqual([way_to(self.shelf, text, place) for place in self.places(text, 5)], ahead)


class WayStandsTest(WayCase):
    def test_another_way(self):
        for text in self.texts():
            for place in self.places(text, text)[::3]:
                way, sign = way_by_pieces(self.shelf, text, place)
                for wrong in other_ways(self.shelf, way):
                    self.assertIs(way_stands(self.shelf, text, place, wrong, sign), False, (text, place, wrong))

    def test_another_way_is_judged_as_one_that_only_asks(self):
        text = leanest(self.shelf, 5)
        way, sign = way_by_pieces(self.shelf, text, 7)
        for wrong in other_ways(self.shelf, way):
            self.assertIs(self.asked(way_stands, text, 7, wrong, sign), False)

    def test_another_place(self):
        text = self.shelf.fork(self.shelf.leaf("abcdefgh"), self.shelf.leaf("ijklmnop"))
        for place in range(16):
            way, sign = way_by_pieces(self.shelf, text, place)
            for wrong in list(range(-20, 40)) + [10 ** 29, -(10 ** 29)]:
                self.assertIs(way_stands(self.shelf, text, wrong, way, sign), wrong == place)

    def test_places_from_outside(self):
        for text in self.texts():
            signs = self.shelf.signs(text)
            for place in (0, signs - 1):
                way, sign = way_by_pieces(self.shelf, text, place)
                for wrong in (-1, -signs, -signs - 1, signs, signs + place, 2 * signs, 10 ** 29, -(10 ** 29)):
                    if wrong != place:
                        self.assertIs(self.asked(way_stands, text, wrong, way, sign), False)

    def test_another_sign(self):
        for text in self.texts():
            for place in self.places(text, text)[::3]:
                way, sign = way_by_pieces(self.shelf, text, place)
                leaf = self.shelf.piece(way[-1])[1]
                for wrong in ("", "\t", "!", "\\n", sign + sign, sign + " ", " " + sign, leaf + "x"):
                    self.assertIs(self.asked(way_stands, text, place, way, wrong), False)

    def test_the_whole_leaf_is_no_sign(self):
        leaf = self.shelf.leaf("ab")
        self.assertIs(way_stands(self.shelf, leaf, 0, [leaf], "a"), True)
        for wrong in ("ab", "b", "A", "", "aa"):
            self.assertIs(way_stands(self.shelf, leaf, 0, [leaf], wrong), False)

    def test_begun_at_another_text(self):
        low = times_itself(self.shelf, "12345678", 3)
        high = self.shelf.fork(low, low)
        way, sign = way_by_pieces(self.shelf, high, 3)
        self.assertIs(way_stands(self.shelf, high, 3, way, sign), True)
        self.assertIs(way_stands(self.shelf, high, 3, way[1:], sign), False)
        self.assertIs(way_stands(self.shelf, low, 3, way, sign), False)
        self.assertIs(way_stands(self.shelf, low, 3, way[1:], sign), True)

    def test_the_text_without_signs(self):
        leaf = self.shelf.leaf("a")
        for place in (0, 1, -1):
            for way in ([], [0], [leaf], [0, leaf]):
                for sign in ("", "a"):
                    self.assertIs(self.asked(way_stands, 0, place, way, sign), False)

    def test_no_piece_goes_ahead(self):
        for turn in range(3):
            for place in (0, -1, 10 ** 29):
                self.no_piece(way_stands, None, place, [1], "1")
                self.no_piece(way_stands, None, place, [], "")
            times_itself(self.shelf, "12345678", turn)


if __name__ == "__main__":
    unittest.main()
