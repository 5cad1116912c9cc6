"""Points 2, 5, 30 and 31: the least leaves and signs of a height, the most height of signs, leanest texts."""

import unittest

from skeinwood.errors import TooLong
from skeinwood.heights import leanest, least_leaves, least_signs, most_height
from skeinwood.shelves import Shelf
from tests.helper import MOST, ShelfCase, leaf_list, pieces_of, tallness, times_itself

HIGHEST = 82


def leaves_by_sums(height):
    sums = [1, 2]
    while len(sums) <= height:
        sums.append(sums[-1] + sums[-2])
    return sums[height]


def signs_by_leaves(leaves):
    return 9 * leaves // 2 if leaves % 2 == 0 else 9 * (leaves - 1) // 2 + 1


def fewest_by_ends(height):
    """The fewest signs of all level and close texts of each height, by the lengths of their first and last leaves."""
    tables = [{(length, length): length for length in range(1, 9)}]
    while len(tables) <= height:
        table = {}
        high = tables[-1]
        pairs = [(high, high)] + [pair for low in tables[-2:-1] for pair in ((high, low), (low, high))]
        for one, other in pairs:
            for (first, last), signs in one.items():
                for (begin, end), more in other.items():
                    if last + begin > 8:
                        table[first, end] = min(table.get((first, end), 10 ** 30), signs + more)
        tables.append(table)
    return [min(table.values()) for table in tables]


class LeastTest(unittest.TestCase):
    def test_the_first_ones(self):
        self.assertEqual([least_leaves(height) for height in range(8)], [1, 2, 3, 5, 8, 13, 21, 34])
        self.assertEqual([least_signs(height) for height in range(8)], [1, 9, 10, 19, 36, 55, 91, 153])

    def test_each_height(self):
        for height in range(121):
            leaves = leaves_by_sums(height)
            self.assertEqual(least_leaves(height), leaves)
            self.assertEqual(least_signs(height), signs_by_leaves(leaves))

    def test_whole_numbers_all(self):
        for height in range(121):
            for told in (least_leaves(height), least_signs(height), most_height(least_signs(height))):
                self.assertIs(type(told), int)

    def test_no_text_of_a_height_has_fewer_signs(self):
        self.assertEqual(fewest_by_ends(20), [least_signs(height) for height in range(21)])

    def test_the_highest_text_that_can_be(self):
        self.assertLessEqual(least_signs(HIGHEST), MOST)
        self.assertGreater(least_signs(HIGHEST + 1), MOST)
        self.assertEqual(most_height(MOST), HIGHEST)


class MostHeightTest(unittest.TestCase):
    def bounds(self, signs):
        height = most_height(signs)
        self.assertIs(type(height), int)
        self.assertLessEqual(least_signs(height), signs)
        self.assertGreater(least_signs(height + 1), signs)

    def test_low_numbers(self):
        self.assertEqual([most_height(signs) for signs in range(1, 9)], [0] * 8)
        self.assertEqual([most_height(signs) for signs in (9, 10, 18, 19, 35, 36)], [1, 2, 2, 3, 3, 4])
        for signs in range(1, 2000):
            self.bounds(signs)

    def test_the_least_signs_of_each_height_and_beside_them(self):
        for height in range(121):
            signs = least_signs(height)
            self.assertEqual(most_height(signs), height)
            self.bounds(signs + 1)
            if height > 0:
                self.assertEqual(most_height(signs - 1), height - 1)
            if height != 1:
                self.assertEqual(most_height(signs + 1), height)
        self.assertEqual(most_height(least_signs(1) + 1), 2)

    def test_great_numbers(self):
        for signs in (10 ** 18, 10 ** 18 + 1, 10 ** 29, 10 ** 29 - 1, 3 * 10 ** 29 + 7, 10 ** 30 - 1):
            self.bounds(signs)


class LeanestTest(ShelfCase):
    def measured(self, height):
        text = self.done(None, leanest, height)
        self.assertIs(type(text), int)
        self.assertEqual(self.shelf.height(text), height)
        self.assertEqual(self.shelf.leaves(text), least_leaves(height))
        self.assertEqual(self.shelf.signs(text), least_signs(height))
        return text

    def test_each_height_on_an_empty_shelf(self):
        for height in range(HIGHEST + 1):
            with self.subTest(height):
                self.shelf = Shelf()
                self.measured(height)
                self.sound()

    def test_each_height_on_one_shelf_up_and_down(self):
        times_itself(self.shelf, "other\n\n", 40)
        ahead = pieces_of(self.shelf)
        texts = {height: self.measured(height) for height in range(HIGHEST + 1)}
        self.assertEqual(pieces_of(self.shelf)[:len(ahead)], ahead)
        many = self.shelf.many()
        for height in reversed(range(HIGHEST + 1)):
            self.assertEqual(leanest(self.shelf, height), texts[height])
        self.assertEqual(self.shelf.many(), many)
        self.sound()

    def test_on_shelves_with_other_pieces(self):
        for height in (0, 1, 2, 3, 10, 41, 81, 82):
            self.shelf = Shelf()
            for plain in ("a", "b", "aaaaaaaa", "bbbbbbbb", "\n", "12345678"):
                self.shelf.leaf(plain)
            times_itself(self.shelf, "bbbbbbbb", 30)
            self.measured(height)
            self.sound()

    def test_low_ones_by_their_pieces_alone(self):
        for height in range(13):
            text = leanest(self.shelf, height)
            leaves = leaf_list(self.shelf, text)
            self.assertEqual(tallness(self.shelf, text), height)
            self.assertEqual(len(leaves), leaves_by_sums(height))
            signs = sum(len(self.shelf.piece(leaf)[1]) for leaf in leaves)
            self.assertEqual(signs, signs_by_leaves(len(leaves)))

    def test_the_same_on_two_shelves(self):
        other = Shelf()
        for height in (5, 82, 40, 3):
            self.assertEqual(leanest(self.shelf, height), leanest(other, height))
        self.assertEqual(pieces_of(self.shelf), pieces_of(other))

    def test_somewhat_beyond_no_text_can_be(self):
        # No text has more than 10 ** 18 signs (22), and what is refused changes nothing (2).
        for height in (83, 84, 100, 120):
            self.refused(TooLong, leanest, self.shelf, height)


if __name__ == "__main__":
    unittest.main()
