"""Points 2, 4 and 80: spellings, what they spell, what they begin, and how many signs they have."""

import random
import unittest

from skeinwood.cutting import cut_at, put_in
from skeinwood.errors import NoPiece
from skeinwood.heights import leanest
from skeinwood.joining import built, joined
from skeinwood.spelling import begins_text, items_signs, spells
from tests.helper import (
    MOST, NO_ITEMS, ShelfCase, begun, drawn_plain, drawn_row, gathered, leaf_list, long_texts, plain_items, reads,
    some_text, spelled, spread, times_itself, way_by_pieces,
)

LOW = ["a", "12345678", "123456789", "one\ntwo\n", "abcdefghijklmnopqr", "\n" * 17, "Skein, wood.\n" * 3]


def row_along(shelf, text, place):
    """A spelling that tells the way to a place: the parts beside it by their numbers, its leaf by its signs."""
    way = way_by_pieces(shelf, text, place)[0]
    ahead, behind = [], []
    for number, part in zip(way, way[1:]):
        one, other = shelf.piece(number)[1:]
        if part == one and place < shelf.signs(one):
            behind.insert(0, other)
        else:
            ahead.append(one)
            place -= shelf.signs(one)
    return ahead + [shelf.piece(way[-1])[1]] + behind


class SpellingCase(ShelfCase):
    def told_spelled(self, text, items, wish):
        self.assertIs(self.asked(spells, text, items), wish)

    def told_begun(self, text, items, wish):
        self.assertIs(self.asked(begins_text, text, items), wish)

    def by_rule(self, text, items):
        """Hold what is told of the items against the document's own rules."""
        self.told_spelled(text, items, spelled(self.shelf, text, items))
        self.told_begun(text, items, begun(self.shelf, text, items))

    def stands(self, text, items):
        """The items spell the text, and every beginning of them begins it, and spells it only where it is all."""
        self.told_spelled(text, items, True)
        for end in range(len(items) + 1):
            self.told_begun(text, items[:end], True)
            self.told_spelled(text, items[:end], end == len(items))
        self.assertEqual(self.asked(items_signs, items), self.shelf.signs(text))
        self.told_spelled(text, items + [1], False)
        self.told_begun(text, items + [1], False)
        self.told_spelled(text, items + ["a"], False)
        self.told_begun(text, items + ["a"], False)

    def low_texts(self, seed):
        chance = random.Random(seed)
        for plain in LOW + [drawn_plain(chance, signs, "ab\n") for signs in (2, 10, 19, 33)]:
            yield some_text(self.shelf, chance, plain)
        for height in range(5):
            yield leanest(self.shelf, height)


class LowTest(SpellingCase):
    def test_numbers_alone(self):
        for text in self.low_texts(61):
            self.stands(text, [text])
            self.stands(text, leaf_list(self.shelf, text))
            piece = self.shelf.piece(text)
            if piece[0] == "fork":
                self.stands(text, list(piece[1:]))

    def test_plain_items_alone(self):
        for text in self.low_texts(62):
            for length in range(1, 9):
                self.stands(text, plain_items(reads(self.shelf, text), length))

    def test_a_plain_item_goes_on_from_one_leaf_into_the_next(self):
        one, two, three = [self.shelf.leaf(plain) for plain in ("abcdefgh", "i", "jklmnopq")]
        text = self.shelf.fork(self.shelf.fork(one, two), three)
        for items in ([one, "ij", "klmnopq"], [one, "ijklmnop", "q"], ["abcdefg", "hijklmno", "pq"],
                      ["abcd", "efghi", three], ["abcdefgh", two, three], ["abcdefg", "h", two, "jklm", "nopq"]):
            self.stands(text, items)
        for items in ([one, "ij", three], [one, two, "jklmnop"], ["abcdefg", one, two, three], [one, "i", "i", three],
                      ["abcdefg", two, three], [one, two, two, three], [one, three, two], [two, one, three]):
            self.told_spelled(text, items, False)
            self.by_rule(text, items)

    def test_both_mixed(self):
        chance = random.Random(63)
        for text in self.low_texts(63):
            for opened in (3, 6, 8, 9, 9, 10):
                row = drawn_row(self.shelf, chance, text, opened)
                self.stands(text, row)
                self.stands(text, gathered(chance, row))
                self.stands(text, gathered(chance, row, 3))

    def test_the_text_without_signs(self):
        for turn in range(2):
            self.told_spelled(0, [], True)
            self.told_begun(0, [], True)
            for item in NO_ITEMS + ["a", 1, "\n", "12345678"]:
                for items in ([item], [item, item], [item, "a"]):
                    self.told_spelled(0, items, False)
                    self.told_begun(0, items, False)
            self.shelf.leaf("a")

    def test_the_empty_list_spells_no_other_text(self):
        for text in self.low_texts(64):
            self.told_spelled(text, [], False)
            self.told_begun(text, [], True)

    def test_every_beginning(self):
        chance = random.Random(65)
        for text in self.low_texts(65):
            plain = reads(self.shelf, text)
            for signs in range(len(plain) + 1):
                items = plain_items(plain[:signs], chance.randint(1, 8))
                self.told_begun(text, items, True)
                self.told_spelled(text, items, signs == len(plain))
                for wrong in ("~", "!"):
                    self.told_begun(text, items + [wrong], False)

    def test_no_number_within_a_leaf_that_is_begun(self):
        short, long = self.shelf.leaf("abcd"), self.shelf.leaf("abcdefgh")
        tail = self.shelf.leaf("efgh")
        text = self.shelf.fork(long, self.shelf.leaf("ijklmnop"))
        for items in ([short, tail], ["abcd", tail], [short, "efgh"], ["abcd", tail, 4]):
            self.told_spelled(long, items[:2], False)
            self.told_begun(long, items[:2], False)
            self.told_begun(text, items, False)
        self.told_begun(text, ["a", long], False)
        self.told_begun(text, ["abcdefgh", long], False)

    def test_a_leaf_is_not_spelled_by_another_that_reads_as_its_begin(self):
        leaf = self.shelf.leaf("aaaaaaaa")
        parts = [self.shelf.leaf("a" * signs) for signs in range(1, 8)]
        for part in parts:
            self.told_begun(leaf, [part], False)
            self.told_spelled(leaf, [part, "a" * (8 - self.shelf.signs(part))], False)

    def test_texts_that_read_alike_do_not_spell_one_another(self):
        chance = random.Random(66)
        plain = "\n" * 40
        texts = sorted({some_text(self.shelf, chance, plain) for turn in range(12)})
        self.assertGreater(len(texts), 3)
        for text in texts:
            for other in texts:
                self.told_spelled(text, [other], text == other)
                self.told_begun(text, [other], text == other)
                self.by_rule(text, leaf_list(self.shelf, other))
            self.stands(text, plain_items(plain, 8))


class OtherwiseTest(SpellingCase):
    def otherwise(self, chance, items):
        """The items with one thing put otherwise, in many ways."""
        many = self.shelf.many()
        for place in range(len(items) + 1):
            head, tail = items[:place], items[place:]
            yield head + [chance.randint(1, many)] + tail
            yield head + [chance.choice("ab\n~")] + tail
            if tail:
                yield head + tail[1:]
                yield head + [tail[0], tail[0]] + tail[1:]
                yield head + [chance.randint(1, many)] + tail[1:]
                yield head + tail[1:2] + [tail[0]] + tail[2:]
                yield from self.item_otherwise(head, tail)

    def item_otherwise(self, head, tail):
        item, rest = tail[0], tail[1:]
        if isinstance(item, str):
            for place in range(len(item)):
                yield head + [item[:place] + "~" + item[place + 1:]] + rest
                yield head + [item[:place] + item[place + 1:]] + rest
            yield head + [item + item[-1]] + rest
            yield head + [item[::-1]] + rest
            return
        piece = self.shelf.piece(item)
        yield head + [item + 1] + rest
        yield head + [item - 1] + rest
        if piece[0] == "fork":
            yield head + [piece[1]] + rest
            yield head + [piece[2]] + rest
            yield head + [piece[2], piece[1]] + rest
        else:
            yield head + [piece[1][:-1]] + rest
            yield head + [piece[1]] + rest

    def test_one_thing_put_otherwise(self):
        chance = random.Random(71)
        for text in list(self.low_texts(71)):
            for opened in (2, 7, 10):
                items = gathered(chance, drawn_row(self.shelf, chance, text, opened))
                for wrong in self.otherwise(chance, items):
                    self.by_rule(text, wrong)

    def test_unlike_signs_put_otherwise_spell_nothing(self):
        text = built(self.shelf, "abcdefghijklmnopqrstuvwxyz")
        row = leaf_list(self.shelf, text)
        for items in ([text], row, plain_items(reads(self.shelf, text), 5), row[:1] + ["ijklmnop"] + row[2:]):
            self.stands(text, items)
            for place in range(len(items)):
                for wrong in (items[:place] + items[place + 1:], items[:place] + [items[place]] + items[place:],
                              items[:place] + ["~"] + items[place:], items[:place] + ["~"] + items[place + 1:]):
                    self.told_spelled(text, wrong, False)
            for place in range(len(items) - 1):
                self.told_spelled(text, items[:place] + items[place:place + 2][::-1] + items[place + 2:], False)

    def test_lists_drawn_at_will(self):
        chance = random.Random(72)
        shelf = self.shelf
        few, full, mixed = shelf.leaf("a"), shelf.leaf("aaaaaaaa"), shelf.leaf("aaaaaaab")
        pairs = [shelf.fork(few, full), shelf.fork(full, few), shelf.fork(full, mixed), shelf.fork(full, full)]
        texts = [0, few, full, mixed] + pairs + [shelf.fork(pairs[0], mixed), shelf.fork(pairs[3], pairs[1])]
        for turn in range(4000):
            text = chance.choice(texts)
            items = [chance.choice([chance.randint(1, shelf.many()), "a", "b", "aa", "aaaaaaaa", "ba", "aab"])
                     for item in range(chance.randrange(6))]
            self.by_rule(text, items)

    def test_what_is_no_item(self):
        chance = random.Random(73)
        for text in list(self.low_texts(73))[::3] + [0]:
            many = self.shelf.many()
            for opened in (0, 8, 10):
                items = gathered(chance, drawn_row(self.shelf, chance, text, opened))
                for wrong in NO_ITEMS + [many + 1, -text - 1, -many, [text], (text,), [items]]:
                    for place in range(len(items) + 1):
                        self.none_stands(text, items[:place] + [wrong] + items[place:])
                        self.none_stands(text, items[:place] + [wrong] + items[place + 1:])

    def none_stands(self, text, items):
        self.told_spelled(text, items, False)
        self.told_begun(text, items, False)

    def test_truths_are_no_numbers_of_pieces(self):
        leaf = self.shelf.leaf("a")
        self.assertEqual(leaf, 1)
        self.none_stands(leaf, [True])
        self.stands(leaf, [1])

    def test_a_leaf_with_nine_signs_in_one_item(self):
        text = built(self.shelf, "abcdefghij")
        self.stands(text, ["abcdefgh", "ij"])
        self.none_stands(text, ["abcdefghi", "j"])
        self.none_stands(text, ["abcdefghij"])

    def test_no_piece_goes_ahead(self):
        for turn in range(3):
            for items in [[], [0], ["a"], [1], [None], ["\t", "a"], [-1], [10 ** 29]]:
                self.no_piece(spells, None, items)
                self.no_piece(begins_text, None, items)
            built(self.shelf, "some more pieces\n" * turn)


class ItemsSignsTest(SpellingCase):
    def test_sums(self):
        chance = random.Random(81)
        texts = [text for text in self.low_texts(81)] + [spread(self.shelf, MOST), leanest(self.shelf, 82)]
        self.assertEqual(self.asked(items_signs, []), 0)
        for turn in range(60):
            items = [chance.choice([chance.choice(texts), drawn_plain(chance, chance.randint(1, 8))])
                     for item in range(chance.randrange(12))]
            wish = sum(len(item) if isinstance(item, str) else self.shelf.signs(item) for item in items)
            told = self.asked(items_signs, items)
            self.assertEqual((told, type(told)), (wish, int))

    def test_more_than_any_text(self):
        most = spread(self.shelf, MOST)
        self.assertEqual(self.asked(items_signs, [most] * 50 + ["a"]), 50 * MOST + 1)

    def test_it_need_not_spell_anything(self):
        one, other = self.shelf.leaf("ab"), self.shelf.leaf("c")
        self.assertEqual(self.asked(items_signs, [other, "xyz", one, other, "\n"]), 8)

    def test_no_piece(self):
        for turn in range(3):
            many = self.shelf.many()
            fill = [1, "ab"] if turn else ["ab", "\n"]
            for wrong in (0, -1, -many - 1, many + 1, many + 2, 10 ** 29, -(10 ** 29)):
                for place in range(3):
                    items = fill[:place] + [wrong] + fill[place:]
                    self.refused(NoPiece, items_signs, self.shelf, items)
                self.refused(NoPiece, items_signs, self.shelf, [wrong])
            self.shelf.leaf("leaf" + "abc"[turn])


class LongTest(SpellingCase):
    def test_along_a_way(self):
        chance = random.Random(91)
        for text in long_texts(self.shelf):
            self.stands(text, [text])
            signs = self.shelf.signs(text)
            for place in [0, signs - 1, signs // 2] + [chance.randrange(signs) for turn in range(3)]:
                items = row_along(self.shelf, text, place)
                self.stands(text, items)
                self.ways_otherwise(text, items)

    def ways_otherwise(self, text, items):
        for place, item in enumerate(items):
            self.told_spelled(text, items[:place] + items[place + 1:], False)
            self.told_spelled(text, items[:place] + [item] + items[place:], False)
            self.told_begun(text, items[:place] + ["~"] + items[place:], False)
            if isinstance(item, str):
                self.told_spelled(text, items[:place] + list(item) + items[place + 1:], True)
                self.told_begun(text, items[:place] + [item[:-1] + "~"] + items[place + 1:], False)
                self.told_begun(text, items[:place] + list(item[:-1]), True)

    def test_beginnings_in_plain_items(self):
        chance = random.Random(92)
        for text in long_texts(self.shelf):
            plain = "".join(way_by_pieces(self.shelf, text, place)[1] for place in range(70))
            for signs in range(71):
                items = plain_items(plain[:signs], chance.randint(1, 8))
                self.told_begun(text, items, True)
                self.told_spelled(text, items, False)
                self.told_begun(text, items + ["~"], False)

    def test_a_part_and_plain_items_behind_it(self):
        for text in long_texts(self.shelf):
            one, other = self.shelf.piece(text)[1:]
            plain = "".join(way_by_pieces(self.shelf, other, place)[1] for place in range(40))
            for length in range(1, 9):
                items = [one] + plain_items(plain, length)
                self.told_begun(text, items, True)
                self.told_begun(text, items + ["~"], False)
            self.told_begun(text, [one, one], one == other)
            self.told_spelled(text, [one, one], one == other)

    def test_joined_cut_and_put_in(self):
        chance = random.Random(93)
        for text in (leanest(self.shelf, 50), spread(self.shelf, 10 ** 16 + 3), times_itself(self.shelf, "\n5678", 40)):
            other = built(self.shelf, "put in here\n" * 6)
            at = chance.randrange(self.shelf.signs(text))
            for told in [joined(self.shelf, text, other), put_in(self.shelf, text, at, other)] + list(
                    cut_at(self.shelf, text, at)):
                self.stands(told, row_along(self.shelf, told, self.shelf.signs(told) // 3))


if __name__ == "__main__":
    unittest.main()
