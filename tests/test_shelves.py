"""Points 2, 5 and 20 to 23: the shelf, its leaves and forks, and what is told of its texts."""

import random
import unittest

from skeinwood.errors import Loose, NoPiece, NoText, TooLong, Unlevel
from skeinwood.shelves import Shelf
from tests.helper import ASKS, MOST, ShelfCase, leaf_list, pieces_of, reads, spread, tallness

NO_LEAVES = [
    "", "123456789", "x" * 20000, "\t", "a\tb", "1234567\t", "\r", "\u00e9", "\x7f",
    0, 1, -1, True, False, None, [], ["a"], (), ("a",), ("leaf", "a"), {}, {"a": "b"},
]


class LeafTest(ShelfCase):
    def test_a_new_shelf_has_no_pieces(self):
        self.assertEqual(self.shelf.many(), 0)

    def test_leaves_are_numbered_from_one_in_order(self):
        for number, plain in enumerate(["a", "12345678", "\n", " ", "~", "\\n", "A", "a ", " a"], start=1):
            self.assertEqual(self.shelf.leaf(plain), number)
            self.assertEqual(self.shelf.many(), number)
            self.assertEqual(self.shelf.piece(number), ("leaf", plain))

    def test_each_length_from_one_to_eight(self):
        for length in range(1, 9):
            self.assertEqual(self.shelf.leaf("x" * length), length)
            self.assertEqual(self.shelf.signs(length), length)

    def test_a_leaf_made_again_has_the_number_that_it_has(self):
        one = self.shelf.leaf("a")
        eight = self.shelf.leaf("a\nb\nc\nd\n")
        for turn in range(3):
            self.assertEqual(self.shelf.leaf("a"), one)
            self.assertEqual(self.shelf.leaf("".join(["a\nb\n", "c\nd\n"])), eight)
        self.assertEqual(self.shelf.many(), 2)

    def test_what_is_no_leaf(self):
        for turn in range(2):
            for thing in NO_LEAVES:
                with self.subTest(thing=repr(thing)[:40]):
                    self.refused(NoText, self.shelf.leaf, thing)
            self.shelf.leaf("a")
        self.assertEqual(self.shelf.leaf("b"), 2)

    def test_numbers_and_pieces_are_of_the_told_kinds(self):
        leaf = self.shelf.leaf("12345678")
        fork = self.shelf.fork(leaf, leaf)
        for number in (leaf, fork, self.shelf.many(), self.shelf.first_leaf(fork), self.shelf.last_leaf(0)):
            self.assertIs(type(number), int)
        self.assertIs(type(self.shelf.piece(leaf)), tuple)
        self.assertIs(type(self.shelf.piece(fork)), tuple)


class ForkTest(ShelfCase):
    def test_a_fork_has_its_parts_in_order(self):
        one = self.shelf.leaf("12345")
        other = self.shelf.leaf("6789")
        self.assertEqual(self.shelf.fork(one, other), 3)
        self.assertEqual(self.shelf.fork(other, one), 4)
        self.assertEqual(self.shelf.piece(3), ("fork", one, other))
        self.assertEqual(self.shelf.piece(4), ("fork", other, one))
        self.assertEqual(self.shelf.many(), 4)

    def test_a_fork_made_again_has_the_number_that_it_has(self):
        leaf = self.shelf.leaf("12345")
        fork = self.shelf.fork(leaf, leaf)
        high = self.shelf.fork(fork, leaf)
        for turn in range(3):
            self.assertEqual(self.shelf.fork(leaf, leaf), fork)
            self.assertEqual(self.shelf.fork(fork, leaf), high)
        self.assertEqual(self.shelf.many(), 3)

    def test_a_leaf_is_never_taken_for_a_fork(self):
        leaf = self.shelf.leaf("12345678")
        fork = self.shelf.fork(leaf, leaf)
        self.assertNotEqual(self.shelf.leaf("fork"), fork)
        self.assertNotEqual(self.shelf.leaf("1"), leaf)
        self.assertEqual(self.shelf.many(), 4)

    def test_no_piece_at_either_place(self):
        self.refused(NoPiece, self.shelf.fork, 0, 0)
        self.refused(NoPiece, self.shelf.fork, 1, 1)
        leaf = self.shelf.leaf("12345678")
        fork = self.shelf.fork(leaf, leaf)
        for wrong in (0, -1, -2, -3, 3, 4, 10 ** 29, -(10 ** 29)):
            for good in (leaf, fork):
                with self.subTest(wrong=wrong, good=good):
                    self.refused(NoPiece, self.shelf.fork, wrong, good)
                    self.refused(NoPiece, self.shelf.fork, good, wrong)
            self.refused(NoPiece, self.shelf.fork, wrong, wrong)

    def test_close_from_nine_signs_on(self):
        leaves = {length: self.shelf.leaf("x" * length) for length in range(1, 9)}
        for one in leaves:
            for other in leaves:
                with self.subTest(one=one, other=other):
                    if one + other <= 8:
                        self.refused(Loose, self.shelf.fork, leaves[one], leaves[other])
                    else:
                        self.shelf.fork(leaves[one], leaves[other])

    def test_close_is_asked_where_the_parts_meet_alone(self):
        small = self.shelf.leaf("a")
        full = self.shelf.leaf("12345678")
        inward = self.shelf.fork(full, small)
        outward = self.shelf.fork(small, full)
        self.refused(Loose, self.shelf.fork, inward, outward)
        self.refused(Loose, self.shelf.fork, inward, small)
        self.refused(Loose, self.shelf.fork, small, outward)
        self.assertEqual(reads(self.shelf, self.shelf.fork(outward, inward)), "a1234567812345678a")
        self.assertEqual(reads(self.shelf, self.shelf.fork(inward, inward)), "12345678a12345678a")

    def test_level_up_to_one(self):
        texts = [self.shelf.leaf("12345678")]
        for height in range(1, 6):
            texts.append(self.shelf.fork(texts[-1], texts[-1]))
        for one in range(6):
            for other in range(6):
                with self.subTest(one=one, other=other):
                    if abs(one - other) > 1:
                        self.refused(Unlevel, self.shelf.fork, texts[one], texts[other])
                    else:
                        made = self.shelf.fork(texts[one], texts[other])
                        self.assertEqual(self.shelf.height(made), max(one, other) + 1)

    def test_no_piece_goes_ahead_of_all(self):
        small = self.shelf.leaf("a")
        for wrong in (0, -1, 2, 10 ** 18):
            self.refused(NoPiece, self.shelf.fork, small, wrong)
            self.refused(NoPiece, self.shelf.fork, wrong, small)
        most = spread(self.shelf, MOST)
        for wrong in (0, -1, self.shelf.many() + 1):
            self.refused(NoPiece, self.shelf.fork, most, wrong)
            self.refused(NoPiece, self.shelf.fork, wrong, most)

    def test_loose_goes_ahead_of_unlevel(self):
        small = self.shelf.leaf("a")
        full = self.shelf.leaf("12345678")
        begins = self.shelf.fork(self.shelf.fork(small, full), full)
        ends = self.shelf.fork(full, self.shelf.fork(full, small))
        self.refused(Loose, self.shelf.fork, small, begins)
        self.refused(Loose, self.shelf.fork, ends, small)
        self.refused(Unlevel, self.shelf.fork, full, begins)
        self.refused(Unlevel, self.shelf.fork, ends, full)

    def test_loose_goes_ahead_of_too_long(self):
        one = spread(self.shelf, MOST - 7)
        other = spread(self.shelf, MOST - 7, small_first=True)
        self.assertEqual(self.shelf.height(one), self.shelf.height(other))
        self.refused(Loose, self.shelf.fork, one, other)
        self.refused(TooLong, self.shelf.fork, other, one)

    def test_loose_goes_ahead_of_both(self):
        text = self.shelf.fork(spread(self.shelf, MOST // 2 + 7), spread(self.shelf, MOST // 2 - 7))
        self.assertEqual((self.shelf.signs(text), self.shelf.signs(self.shelf.last_leaf(text))), (MOST, 1))
        self.refused(Loose, self.shelf.fork, text, self.shelf.leaf("b"))
        self.refused(Unlevel, self.shelf.fork, text, self.shelf.leaf("12345678"))

    def test_unlevel_goes_ahead_of_too_long(self):
        most = spread(self.shelf, MOST)
        full = self.shelf.leaf("12345678")
        self.refused(Unlevel, self.shelf.fork, most, full)
        self.refused(Unlevel, self.shelf.fork, full, most)
        self.refused(Unlevel, self.shelf.fork, most, self.shelf.fork(full, full))


class LongestTest(ShelfCase):
    def test_just_the_most_signs(self):
        half = spread(self.shelf, MOST // 2)
        text = self.shelf.fork(half, half)
        self.assertEqual(self.shelf.signs(text), MOST)
        self.assertEqual(self.shelf.ends(text), MOST // 8)
        self.assertEqual(self.shelf.leaves(text), MOST // 8)
        self.assertEqual(self.shelf.fork(half, half), text)

    def test_one_sign_more(self):
        half = spread(self.shelf, MOST // 2)
        more = spread(self.shelf, MOST // 2 + 1)
        less = spread(self.shelf, MOST // 2 - 1)
        self.assertEqual(self.shelf.signs(more), MOST // 2 + 1)
        self.refused(TooLong, self.shelf.fork, half, more)
        self.refused(TooLong, self.shelf.fork, more, half)
        self.assertEqual(self.shelf.signs(self.shelf.fork(less, half)), MOST - 1)
        self.assertEqual(self.shelf.signs(self.shelf.fork(half, half)), MOST)

    def test_far_more(self):
        most = spread(self.shelf, MOST)
        self.refused(TooLong, self.shelf.fork, most, most)

    def test_one_piece_with_itself_up_to_the_most_signs(self):
        text = spread(self.shelf, 5 ** 18)
        first = self.shelf.first_leaf(text)
        last = self.shelf.last_leaf(text)
        leaves = self.shelf.leaves(text)
        height = self.shelf.height(text)
        self.assertEqual((self.shelf.piece(first), self.shelf.piece(last)), (("leaf", "abcdefg\n"), ("leaf", "a")))
        ahead = self.shelf.many()
        for turn in range(1, 19):
            text = self.shelf.fork(text, text)
            self.assertEqual(
                self.told(text),
                [5 ** 18 * 2 ** turn, (leaves - 1) * 2 ** turn, leaves * 2 ** turn, height + turn, first, last])
        self.assertEqual(self.shelf.signs(text), MOST)
        self.assertEqual(self.shelf.many(), ahead + 18)
        self.refused(TooLong, self.shelf.fork, text, text)

    def test_one_leaf_with_itself_as_often_as_can_be(self):
        text = self.shelf.leaf("a\nbcde\nf")
        for turn in range(1, 57):
            text = self.shelf.fork(text, text)
            self.assertEqual(self.told(text), [8 * 2 ** turn, 2 ** (turn + 1), 2 ** turn, turn, 1, 1])
        self.refused(TooLong, self.shelf.fork, text, text)
        self.assertEqual(self.shelf.many(), 57)


class TellingTest(ShelfCase):
    def test_the_text_without_signs(self):
        for turn in range(2):
            self.assertEqual(self.told(0), [0, 0, 0, -1, 0, 0])
            self.shelf.leaf("\n")

    def test_leaves(self):
        for plain in ["a", "\n", "12345678", "a\nb\n", "\n\n\n\n\n\n\n\n"]:
            number = self.shelf.leaf(plain)
            self.assertEqual(self.told(number), [len(plain), plain.count("\n"), 1, 0, number, number])

    def test_forks(self):
        one = self.shelf.leaf("one\n")
        two = self.shelf.leaf("two\n\n\n")
        six = self.shelf.leaf("\nsixsix")
        low = self.shelf.fork(one, two)
        high = self.shelf.fork(six, low)
        self.assertEqual(self.told(low), [10, 4, 2, 1, one, two])
        self.assertEqual(self.told(high), [17, 5, 3, 2, six, two])
        self.assertEqual(self.told(self.shelf.fork(low, six)), [17, 5, 3, 2, one, six])
        self.assertEqual(self.told(self.shelf.fork(high, low)), [27, 9, 5, 3, six, two])

    def test_numbers_that_are_no_text(self):
        for turn in range(3):
            many = self.shelf.many()
            for wrong in (-1, -2, -3, -4, many + 1, many + 2, 10 ** 29, -(10 ** 29)):
                for ask in ASKS + ["piece"]:
                    with self.subTest(ask, wrong=wrong, many=many):
                        self.refused(NoPiece, getattr(self.shelf, ask), wrong)
            self.shelf.leaf("12345678" if turn else "x")

    def test_piece_refuses_nought(self):
        self.refused(NoPiece, self.shelf.piece, 0)
        self.shelf.leaf("a")
        self.refused(NoPiece, self.shelf.piece, 0)

    def test_asking_puts_no_piece_there(self):
        leaf = self.shelf.leaf("12345678")
        fork = self.shelf.fork(leaf, leaf)
        ahead = pieces_of(self.shelf)
        for text in (0, leaf, fork):
            self.assertEqual(self.told(text), self.told(text))
        self.assertEqual(pieces_of(self.shelf), ahead)

    def test_the_same_is_told_with_more_pieces_there(self):
        leaf = self.shelf.leaf("12345678")
        fork = self.shelf.fork(leaf, leaf)
        ahead = [self.told(text) for text in (0, leaf, fork)]
        pieces = pieces_of(self.shelf)
        for text in ("a", "\n", "b\n345678"):
            self.shelf.fork(fork, self.shelf.fork(leaf, self.shelf.leaf(text)))
        self.assertEqual([self.told(text) for text in (0, leaf, fork)], ahead)
        self.assertEqual(pieces_of(self.shelf)[:2], pieces)
        self.assertEqual((self.shelf.leaf("12345678"), self.shelf.fork(leaf, leaf)), (leaf, fork))


class ManyDeedsTest(ShelfCase):
    """The promise, point 5, over long rows of deeds, held against what the pieces themselves tell."""

    def make(self, seed, deeds, shelf):
        chance = random.Random(seed)
        plain = {0: ""}
        answers = []
        for turn in range(deeds):
            if turn < 6 or chance.random() < 0.1:
                wish = "".join(chance.choice("ab\n ~\\") for sign in range(chance.randint(1, 8)))
                number = shelf.leaf(wish)
            else:
                one, other = chance.choice(sorted(plain)), chance.choice(sorted(plain))
                wish = plain[one] + plain[other]
                try:
                    number = shelf.fork(one, other)
                except (NoPiece, Loose, Unlevel) as error:
                    answers.append(type(error))
                    continue
            answers.append(number)
            self.assertEqual(plain.setdefault(number, wish), wish)
        return plain, answers

    def test_each_text_reads_as_its_deeds_make_it(self):
        for seed in range(8):
            self.shelf = Shelf()
            plain, answers = self.make(seed, 300, self.shelf)
            self.assertEqual(sorted(plain), list(range(self.shelf.many() + 1)))
            for text in plain:
                leaves = leaf_list(self.shelf, text)
                first, last = (leaves[0], leaves[-1]) if leaves else (0, 0)
                self.assertEqual(reads(self.shelf, text), plain[text])
                self.assertEqual(
                    self.told(text),
                    [len(plain[text]), plain[text].count("\n"), len(leaves), tallness(self.shelf, text), first, last])

    def test_all_pieces_are_unlike_level_and_close(self):
        for seed in range(8):
            self.shelf = Shelf()
            self.make(seed, 300, self.shelf)
            pieces = pieces_of(self.shelf)
            self.assertEqual(len(set(pieces)), len(pieces))
            for number, piece in enumerate(pieces, start=1):
                if piece[0] == "leaf":
                    self.assertTrue(1 <= len(piece[1]) <= 8)
                    continue
                one, other = piece[1:]
                self.assertTrue(0 < one < number and 0 < other < number)
                self.assertLessEqual(abs(tallness(self.shelf, one) - tallness(self.shelf, other)), 1)
                meet = leaf_list(self.shelf, one)[-1], leaf_list(self.shelf, other)[0]
                self.assertGreater(sum(len(self.shelf.piece(leaf)[1]) for leaf in meet), 8)

    def test_the_same_deeds_on_two_shelves_tell_the_same(self):
        one, other = Shelf(), Shelf()
        self.assertEqual(self.make(5, 300, one), self.make(5, 300, other))
        self.assertEqual(pieces_of(one), pieces_of(other))

    def test_two_shelves_know_nothing_of_one_another(self):
        other = Shelf()
        leaf = self.shelf.leaf("12345678")
        self.shelf.fork(leaf, leaf)
        self.assertEqual(other.many(), 0)
        for ask in ASKS + ["piece"]:
            with self.assertRaises(NoPiece):
                getattr(other, ask)(leaf)
        with self.assertRaises(NoPiece):
            other.fork(leaf, leaf)
        self.assertEqual(other.leaf("\n"), 1)
        self.assertEqual((other.piece(1), other.signs(1), other.ends(1)), (("leaf", "\n"), 1, 1))
        self.assertEqual((self.shelf.piece(1), self.shelf.signs(1), self.shelf.many()), (("leaf", "12345678"), 8, 2))


if __name__ == "__main__":
    unittest.main()
