"""Points 2, 5 and 110: the reach of texts, swept shelves, and the pieces that two texts share."""

import random
import unittest

from skeinwood.cutting import cut_at, put_in
from skeinwood.errors import NoPiece
from skeinwood.heights import leanest
from skeinwood.joining import built, joined, repeated
from skeinwood.reading import whole_text
from skeinwood.shelves import Shelf
from skeinwood.sweeping import reach_of, shared, swept
from tests.helper import (
    ASKS, MOST, ShelfCase, drawn_plain, long_texts, made_otherwise, part_by_pieces, pieces_of, reads, some_text, spread,
    times_itself,
)


def reach_by_pieces(shelf, texts):
    """The numbers of the texts but 0, of their parts, and so on, by the pieces alone."""
    found = set()

    def go(number):
        if number not in found:
            found.add(number)
            for part in shelf.piece(number)[1:] if shelf.piece(number)[0] == "fork" else ():
                go(part)
    for text in texts:
        if text != 0:
            go(text)
    return found


class SweepingCase(ShelfCase):
    def reached(self, texts):
        told = self.asked(reach_of, texts)
        self.assertEqual(told, sorted(reach_by_pieces(self.shelf, texts)))
        self.assertIs(type(told), list)
        return told

    def swept_well(self, texts):
        """The swept shelf and the numbers on it, which are as the document asks; the elder shelf is as it was."""
        elder = pieces_of(self.shelf)
        handed = list(texts)
        told = swept(self.shelf, texts)
        self.assertIs(type(told), tuple)
        new, numbers = told
        self.assertIsInstance(new, Shelf)
        self.assertIsNot(new, self.shelf)
        self.assertEqual(texts, handed)
        self.assertIsNot(numbers, texts)
        self.assertEqual(pieces_of(self.shelf), elder)
        reach = sorted(reach_by_pieces(self.shelf, texts))
        place = {number: at for at, number in enumerate([0] + reach)}
        wish = [piece if piece[0] == "leaf" else ("fork", place[piece[1]], place[piece[2]])
                for piece in [elder[number - 1] for number in reach]]
        self.assertEqual(pieces_of(new), wish)
        self.assertEqual(numbers, [place[text] for text in texts])
        for number in [0] + reach:
            for ask in ASKS[:4]:
                self.assertEqual(getattr(new, ask)(place[number]), getattr(self.shelf, ask)(number))
            for ask in ASKS[4:]:
                self.assertEqual(getattr(new, ask)(place[number]), place[getattr(self.shelf, ask)(number)])
        other, again = swept(self.shelf, texts)
        self.assertIsNot(other, new)
        self.assertIsNot(again, numbers)
        self.assertEqual((pieces_of(other), again), (pieces_of(new), numbers))
        return new, numbers

    def some_texts(self, seed):
        """Texts that share pieces, and others on the shelf between them."""
        chance = random.Random(seed)
        texts = [made_otherwise(self.shelf, chance, drawn_plain(chance, chance.randrange(60))) for turn in range(12)]
        texts += [leanest(self.shelf, height) for height in (0, 1, 4, 7)]
        for turn in range(8):
            one, other = chance.choice(texts), chance.choice(texts)
            texts.append(joined(self.shelf, one, other))
            texts.append(put_in(self.shelf, one, chance.randint(0, self.shelf.signs(one)), other))
        return texts


class ReachTest(SweepingCase):
    def test_no_texts_and_texts_without_signs(self):
        for turn in range(2):
            for many in range(4):
                self.assertEqual(self.reached([0] * many), [])
            built(self.shelf, "some pieces that lie there\n")

    def test_one_text(self):
        leaf, other = self.shelf.leaf("abcdefgh"), self.shelf.leaf("1")
        fork = self.shelf.fork(leaf, other)
        above = self.shelf.fork(fork, leaf)
        self.assertEqual(self.reached([leaf]), [1])
        self.assertEqual(self.reached([other]), [2])
        self.assertEqual(self.reached([fork]), [1, 2, 3])
        self.assertEqual(self.reached([above]), [1, 2, 3, 4])
        self.assertEqual(self.reached([other, leaf]), [1, 2])
        for text in self.some_texts(1):
            self.reached([text])

    def test_many_texts(self):
        chance = random.Random(2)
        texts = self.some_texts(2) + [0]
        for turn in range(100):
            self.reached([chance.choice(texts) for text in range(chance.randrange(7))])
        self.reached(texts)
        self.reached(texts[::-1])

    def test_the_same_one_twice(self):
        for text in self.some_texts(3):
            alone = self.reached([text])
            self.assertEqual(self.reached([text, text]), alone)
            self.assertEqual(self.reached([0, text, 0, text]), alone)

    def test_all_pieces(self):
        self.some_texts(4)
        every = list(range(1, self.shelf.many() + 1))
        self.assertEqual(self.reached(every), every)
        self.assertEqual(self.reached(every[::-1]), every)

    def test_very_long_texts(self):
        texts = list(long_texts(self.shelf))
        for text in texts:
            self.reached([text])
        self.reached(texts)
        text = times_itself(self.shelf, "a\nbcdefg", 56)
        self.assertEqual(len(self.reached([text])), 57)


class SweptTest(SweepingCase):
    def test_nothing(self):
        for turn in range(2):
            for many in range(3):
                new, numbers = self.swept_well([0] * many)
                self.assertEqual((new.many(), numbers), (0, [0] * many))
            built(self.shelf, "some pieces that lie there\n")

    def test_a_list_as_long_with_0_and_the_same_twice(self):
        text, other = built(self.shelf, "some more words\n" * 3), built(self.shelf, "others")
        new, numbers = self.swept_well([other, 0, text, text, 0, other])
        self.assertEqual(len(numbers), 6)
        self.assertEqual([whole_text(new, number) for number in numbers],
                         ["others", "", "some more words\n" * 3, "some more words\n" * 3, "", "others"])

    def test_each_text_reads_as_before(self):
        chance = random.Random(11)
        texts = self.some_texts(11) + [0]
        for turn in range(60):
            some = [chance.choice(texts) for text in range(chance.randrange(6))]
            new, numbers = self.swept_well(some)
            self.assertEqual([reads(new, number) for number in numbers], [reads(self.shelf, text) for text in some])
            self.assertEqual(reach_by_pieces(new, numbers), set(range(1, new.many() + 1)))

    def test_all_is_kept_where_all_is_reached(self):
        texts = self.some_texts(12)
        every = list(range(1, self.shelf.many() + 1))
        new, numbers = self.swept_well(every)
        self.assertEqual((pieces_of(new), numbers), (pieces_of(self.shelf), every))
        self.assertNotEqual(texts, [])

    def test_swept_again_all_stays(self):
        texts = self.some_texts(13)[-5:]
        new, numbers = self.swept_well(texts)
        again, same = swept(new, numbers)
        self.assertEqual((pieces_of(again), same), (pieces_of(new), numbers))

    def test_deeds_go_on_on_the_new_shelf(self):
        chance = random.Random(14)
        texts = self.some_texts(14)
        elder = pieces_of(self.shelf)
        new, numbers = self.swept_well(texts[-6:])
        first = pieces_of(new)
        self.shelf, kept = new, self.shelf
        for turn in range(60):
            one, other = chance.choice(numbers), chance.choice(numbers)
            plain = reads(new, one) + reads(new, other)
            if len(plain) > 500:
                one, plain = 0, reads(new, other)
            text = joined(new, one, other)
            self.assertEqual(reads(new, text), plain)
            at = chance.randint(0, len(plain))
            pair = cut_at(new, text, at)
            self.assertEqual([reads(new, part) for part in pair], [plain[:at], plain[at:]])
            numbers += [text, pair[0], built(new, drawn_plain(chance, 20))]
        self.sound()
        self.assertEqual(pieces_of(new)[:len(first)], first)
        self.assertEqual(pieces_of(kept), elder)
        self.assertGreater(new.many(), len(first))

    def test_deeds_on_the_elder_shelf_leave_the_new_one_alone(self):
        text = built(self.shelf, "some more words\n" * 3)
        new, numbers = self.swept_well([text])
        first = pieces_of(new)
        joined(self.shelf, text, built(self.shelf, "and others\n"))
        self.assertEqual(pieces_of(new), first)

    def test_a_piece_made_again_has_the_number_that_it_has(self):
        for text in self.some_texts(15):
            new, numbers = self.swept_well([text])
            for number, piece in enumerate(pieces_of(new), start=1):
                self.assertEqual(new.leaf(piece[1]) if piece[0] == "leaf" else new.fork(*piece[1:]), number)

    def test_the_same_deeds_tell_the_same_numbers(self):
        texts = self.some_texts(16)[-4:]
        (one, numbers), (other, same) = swept(self.shelf, texts), swept(self.shelf, texts)
        for shelf in (one, other):
            joined(shelf, numbers[0], numbers[1])
            cut_at(shelf, numbers[2], shelf.signs(numbers[2]) // 2)
            built(shelf, "new words for it\n")
        self.assertEqual((pieces_of(one), numbers), (pieces_of(other), same))

    def test_very_long_texts(self):
        texts = list(long_texts(self.shelf))
        for text in texts:
            new, numbers = self.swept_well([text])
            for place in (0, self.shelf.signs(text) // 3, self.shelf.signs(text) - 40):
                wish = part_by_pieces(self.shelf, text, place, place + 40)
                self.assertEqual(part_by_pieces(new, numbers[0], place, place + 40), wish)
        self.swept_well(texts[::-1])
        text = repeated(self.shelf, built(self.shelf, "some words\n"), 10 ** 16)
        one, other = cut_at(self.shelf, text, 10 ** 15)
        new, numbers = self.swept_well([other, one])
        self.assertEqual(new.signs(joined(new, numbers[1], numbers[0])), 11 * 10 ** 16)


class SharedTest(SweepingCase):
    def told_shared(self, one, other):
        told = self.asked(shared, one, other)
        wish = sorted(reach_by_pieces(self.shelf, [one]) & reach_by_pieces(self.shelf, [other]))
        self.assertEqual((told, type(told)), (wish, list))
        self.assertEqual(self.asked(shared, other, one), wish)
        return told

    def test_pairs(self):
        texts = self.some_texts(21)[::2] + [0]
        for one in texts:
            for other in texts:
                self.told_shared(one, other)

    def test_edges(self):
        self.assertEqual(self.told_shared(0, 0), [])
        one, other = self.shelf.leaf("abcdefgh"), self.shelf.leaf("1")
        fork, turned = self.shelf.fork(one, other), self.shelf.fork(other, one)
        self.assertEqual(self.told_shared(0, fork), [])
        self.assertEqual(self.told_shared(one, other), [])
        self.assertEqual(self.told_shared(one, one), [1])
        self.assertEqual(self.told_shared(fork, turned), [1, 2])
        self.assertEqual(self.told_shared(fork, one), [1])
        self.assertEqual(self.told_shared(fork, fork), [1, 2, 3])
        self.assertEqual(self.told_shared(fork, self.shelf.fork(fork, one)), [1, 2, 3])

    def test_very_long_texts(self):
        texts = list(long_texts(self.shelf))
        for one in texts:
            for other in texts:
                self.told_shared(one, other)
        text = spread(self.shelf, MOST - 10 ** 17)
        more = put_in(self.shelf, text, 10 ** 15, some_text(self.shelf, random.Random(22), "put in here\n"))
        self.assertGreater(len(self.told_shared(text, more)), 50)


class RefusedTest(SweepingCase):
    def test_no_piece(self):
        for turn in range(3):
            many = self.shelf.many()
            for wrong in (-1, -many - 1, many + 1, many + 2, 10 ** 29, -(10 ** 29)):
                for texts in ([wrong], [0, wrong], [wrong, 0], [many, wrong, many], [wrong] * 3):
                    self.refused(NoPiece, reach_of, self.shelf, texts)
                    self.refused(NoPiece, swept, self.shelf, texts)
            for text in (0, many):
                self.no_piece(shared, None, text)
                self.no_piece(shared, text, None)
            self.no_piece(shared, None, None)
            times_itself(self.shelf, "12345678", turn)


if __name__ == "__main__":
    unittest.main()
