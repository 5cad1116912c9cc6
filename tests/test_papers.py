"""Points 2, 5, 80, 81 and 82: papers, which show that texts one behind the other are a text."""

import random
import unittest

from skeinwood.cutting import cut_at, put_in
from skeinwood.errors import NoPiece
from skeinwood.heights import leanest
from skeinwood.joining import built, joined, repeated
from skeinwood.papers import paper_of, paper_stands
from tests.helper import (
    MOST, NO_ITEMS, ShelfCase, by_chunks, drawn_plain, gathered, leaf_list, long_texts, made_otherwise, plain_items,
    reads, some_text, spelled, spread, times_itself,
)

LOW = ["", "a", "\n", "1234567", "12345678", "123456789", "one\ntwo\n", "abcdefghijklmnopqr", "a" * 33, "Skein\n" * 9]


def stands_by_rule(shelf, texts, other, paper):
    """Whether the paper stands, by the document's rules."""
    if len(paper) != len(texts):
        return False
    each = all(spelled(shelf, text, items) for text, items in zip(texts, paper))
    return each and spelled(shelf, other, sum(paper, []))


class PaperCase(ShelfCase):
    def shown(self, texts, other, bounded=False):
        """The paper that is told, which stands, by the judge and by the document's rules."""
        paper = self.asked(paper_of, texts, other)
        self.assertIs(type(paper), list)
        self.assertEqual([type(items) for items in paper], [list] * len(texts))
        self.assertTrue(stands_by_rule(self.shelf, texts, other, paper))
        self.assertIs(self.asked(paper_stands, texts, other, paper), True)
        if bounded:
            height = max(self.shelf.height(text) for text in texts + [other])
            self.assertLessEqual(sum(len(items) for items in paper), 64 * (height + 1))
        return paper

    def none_told(self, texts, other):
        self.assertIsNone(self.asked(paper_of, texts, other))

    def judged(self, texts, other, paper):
        """What the judge says of the paper, which is what the document's rules say."""
        told = self.asked(paper_stands, texts, other, paper)
        self.assertIs(told, stands_by_rule(self.shelf, texts, other, paper))
        return told

    def low_texts(self, seed):
        chance = random.Random(seed)
        for plain in LOW:
            yield made_otherwise(self.shelf, chance, plain)
            yield some_text(self.shelf, chance, plain)
        for height in range(6):
            yield leanest(self.shelf, height)

    def some_places(self, chance, text, many):
        signs = self.shelf.signs(text)
        near = [place for place in (0, 1, 7, 8, 9, signs // 2, signs - 9, signs - 1, signs) if 0 <= place <= signs]
        return near + [chance.randint(0, signs) for turn in range(many)]


class JoinedTest(PaperCase):
    def test_low_texts(self):
        texts = list(self.low_texts(1))
        for one in texts:
            for other in texts:
                self.shown([one, other], joined(self.shelf, one, other), True)

    def test_the_text_without_signs(self):
        self.assertEqual(self.shown([0, 0], joined(self.shelf, 0, 0), True), [[], []])
        for text in list(self.low_texts(2)) + [spread(self.shelf, MOST), leanest(self.shelf, 82)]:
            self.assertEqual(joined(self.shelf, 0, text), text)
            self.shown([0, text], text, True)
            self.shown([text, 0], text, True)

    def test_very_long_texts(self):
        texts = [times_itself(self.shelf, "a\nbcdefg", 54), times_itself(self.shelf, "\n5678", 50),
                 spread(self.shelf, 10 ** 17 + 1), spread(self.shelf, 10 ** 16 + 3, small_first=True),
                 leanest(self.shelf, 75), repeated(self.shelf, built(self.shelf, "some words\n"), 10 ** 16),
                 self.shelf.leaf("z"), spread(self.shelf, 25), spread(self.shelf, 65, small_first=True), 0]
        for one in texts:
            for other in texts:
                self.shown([one, other], joined(self.shelf, one, other), True)

    def test_whole_rows_of_joinings(self):
        chance = random.Random(3)
        text = 0
        for turn in range(150):
            more = built(self.shelf, drawn_plain(chance, chance.choice([1, 2, 3, 9, 40])))
            pair = [text, more] if chance.randrange(2) else [more, text]
            text = joined(self.shelf, *pair)
            self.shown(pair, text, True)


class CutTest(PaperCase):
    def cut_shown(self, text, place):
        pair = cut_at(self.shelf, text, place)
        return self.shown(list(pair), text, True)

    def test_every_place_of_low_texts(self):
        for text in self.low_texts(11):
            for place in range(self.shelf.signs(text) + 1):
                self.cut_shown(text, place)
        text = by_chunks(self.shelf, random.Random(12), drawn_plain(random.Random(12), 300), 9)
        for place in range(301):
            self.cut_shown(text, place)

    def test_places_of_very_long_texts(self):
        chance = random.Random(13)
        for text in long_texts(self.shelf):
            for place in self.some_places(chance, text, 12):
                self.cut_shown(text, place)

    def test_what_was_cut_and_joined_is_cut_again(self):
        chance = random.Random(14)
        for text in long_texts(self.shelf):
            for turn in range(6):
                place = chance.randrange(self.shelf.signs(text))
                pair = cut_at(self.shelf, text, place)
                self.shown(list(pair), text, True)
                text = joined(self.shelf, pair[1], pair[0])
                self.shown([pair[1], pair[0]], text, True)


class PutInTest(PaperCase):
    def put_shown(self, text, at, other):
        one, behind = cut_at(self.shelf, text, at)
        self.shown([one, other, behind], put_in(self.shelf, text, at, other))

    def test_every_place_of_low_texts(self):
        others = [built(self.shelf, plain) for plain in ("", "x", "\nxyz", "12345678", "put in here\n" * 4)]
        for text in self.low_texts(21):
            for at in range(self.shelf.signs(text) + 1):
                for other in others + [text]:
                    self.put_shown(text, at, other)

    def test_very_long_texts(self):
        chance = random.Random(22)
        others = [0, built(self.shelf, "x"), built(self.shelf, "put in here\n"), leanest(self.shelf, 40),
                  times_itself(self.shelf, "\n5678", 45), spread(self.shelf, 10 ** 15 + 5)]
        for text in others + [spread(self.shelf, MOST - 10 ** 17), leanest(self.shelf, 74)]:
            for other in others:
                for at in self.some_places(chance, text, 4):
                    self.put_shown(text, at, other)


class OtherListsTest(PaperCase):
    def parts_of(self, chance, plain, many):
        """The plain text in so many stretches, drawn, some of them perhaps without signs."""
        ends = sorted(chance.randint(0, len(plain)) for turn in range(many - 1))
        return [plain[begin:end] for begin, end in zip([0] + ends, ends + [len(plain)])]

    def test_no_texts(self):
        self.assertEqual(self.shown([], 0), [])
        for text in list(self.low_texts(31)) + list(long_texts(self.shelf)):
            if text != 0:
                self.none_told([], text)

    def test_nothing_but_texts_without_signs(self):
        for many in range(6):
            self.assertEqual(self.shown([0] * many, 0), [[]] * many)
            self.none_told([0] * many, self.shelf.leaf("a"))

    def test_one_to_five_texts(self):
        chance = random.Random(32)
        for turn in range(150):
            letters = chance.choice(["a", "ab\n", "abcdefg"])
            plain = drawn_plain(chance, chance.choice([0, 1, 5, 9, 20, 50, 130]), letters)
            other = made_otherwise(self.shelf, chance, plain)
            for many in range(1, 6):
                parts = self.parts_of(chance, plain, many)
                texts = [made_otherwise(self.shelf, chance, part) for part in parts]
                self.shown(texts, other)

    def test_what_does_not_read_so(self):
        chance = random.Random(33)
        for turn in range(150):
            plain = drawn_plain(chance, chance.choice([1, 5, 9, 20, 50, 130]), "ab\n")
            parts = self.parts_of(chance, plain, chance.randint(1, 5))
            texts = [made_otherwise(self.shelf, chance, part) for part in parts]
            for place in {0, len(plain) - 1, chance.randrange(len(plain))}:
                for wrong in (plain[:place] + "~" + plain[place + 1:], plain[:place] + plain[place + 1:],
                              plain[:place] + "~" + plain[place:]):
                    self.none_told(texts, made_otherwise(self.shelf, chance, wrong))
            self.none_told(texts, built(self.shelf, plain + "a"))
            self.none_told(texts + [self.shelf.leaf("a")], built(self.shelf, plain))
            self.none_told(texts, 0)

    def test_drawn_at_will(self):
        chance = random.Random(34)
        texts = [made_otherwise(self.shelf, chance, "a" * signs) for signs in range(30) for turn in range(3)]
        texts += [made_otherwise(self.shelf, chance, "a" * signs + "b") for signs in range(12)]
        shown = 0
        for turn in range(3000):
            some = [chance.choice(texts) for text in range(chance.randrange(4))]
            other = chance.choice(texts)
            if "".join(reads(self.shelf, text) for text in some) == reads(self.shelf, other):
                self.shown(some, other)
                shown += 1
            else:
                self.none_told(some, other)
        self.assertGreater(shown, 30)

    def test_turned_about(self):
        one, two, three = [built(self.shelf, plain) for plain in ("abcdefghijk", "lmnop", "qrstuvwxyz")]
        other = built(self.shelf, "abcdefghijklmnopqrstuvwxyz")
        self.shown([one, two, three], other)
        for texts in ([one, three, two], [two, one, three], [three, two, one], [one, two, two, three], [one, three]):
            self.none_told(texts, other)

    def test_just_ten_thousand_signs(self):
        chance = random.Random(35)
        for letters in ("a", "ab\n ", "abcdefgh"):
            plain = drawn_plain(chance, 10000, letters)
            other = by_chunks(self.shelf, chance, plain)
            for many in (1, 2, 5):
                texts = [by_chunks(self.shelf, chance, part) for part in self.parts_of(chance, plain, many)]
                self.shown(texts, other)
                self.shown(texts, built(self.shelf, plain))
                for place in (0, 5000, 9999):
                    self.none_told(texts, built(self.shelf, plain[:place] + "~" + plain[place + 1:]))
            self.none_told([built(self.shelf, plain)] * 5, other)

    def test_the_same_text_again_and_again(self):
        chance = random.Random(36)
        text = made_otherwise(self.shelf, chance, "again and again\n")
        for many in range(1, 6):
            self.shown([text] * many, repeated(self.shelf, text, many))
            self.shown([text] * many, made_otherwise(self.shelf, chance, "again and again\n" * many))

    def test_no_piece_goes_ahead(self):
        for turn in range(3):
            many = self.shelf.many()
            for wrong in (-1, -many - 1, many + 1, many + 2, 10 ** 29, -(10 ** 29)):
                for texts, other in (([wrong], 0), ([0, wrong], 0), ([wrong, many], many), ([many, 0, wrong, many], 0),
                                     ([], wrong), ([many], wrong), ([wrong], wrong), ([many, many], wrong)):
                    self.refused(NoPiece, paper_of, self.shelf, texts, other)
                    for paper in ([], [[]], [[], []], [[many], ["a"]], [[wrong], []], [[None, 0]], [[]] * 4):
                        self.refused(NoPiece, paper_stands, self.shelf, texts, other, paper)
            times_itself(self.shelf, "12345678", turn)


class StandsTest(PaperCase):
    def some_papers(self, seed):
        """Lists of texts, another text, and what is told of them, of low texts and of very long ones."""
        chance = random.Random(seed)
        texts = list(self.low_texts(seed))
        for turn in range(12):
            pair = [chance.choice(texts), chance.choice(texts)]
            yield pair, joined(self.shelf, *pair)
        for text in texts[-8:] + list(long_texts(self.shelf)):
            place = chance.randint(0, self.shelf.signs(text))
            one, other = cut_at(self.shelf, text, place)
            yield [one, other], text
            if self.shelf.signs(text) < MOST - 100:
                yield [one, texts[9], other], put_in(self.shelf, text, place, texts[9])
        for turn in range(10):
            plain = drawn_plain(chance, chance.randint(1, 40), "ab")
            at = chance.randint(0, len(plain))
            parts = [made_otherwise(self.shelf, chance, part) for part in (plain[:at], plain[at:])]
            yield parts + [0], made_otherwise(self.shelf, chance, plain)

    def otherwise(self, chance, paper):
        """The paper with one thing put otherwise, in many ways."""
        many = self.shelf.many()
        for row, items in enumerate(paper):
            ahead, behind = paper[:row], paper[row + 1:]
            yield ahead + behind
            yield ahead + [[]] + paper[row:]
            yield ahead + [items] + paper[row:]
            if behind:
                yield ahead + [behind[0], items] + behind[1:]
                yield ahead + [items + behind[0]] + behind[1:]
                yield ahead + [items + behind[0][:1], behind[0][1:]] + behind[1:]
                yield ahead + [items[:-1], items[-1:] + behind[0]] + behind[1:]
            for place in sorted(chance.sample(range(len(items) + 1), min(len(items) + 1, 25))):
                head, tail = items[:place], items[place:]
                yield ahead + [head + [chance.randint(1, many)] + tail] + behind
                yield ahead + [head + [chance.choice("ab\n~")] + tail] + behind
                if tail:
                    yield ahead + [head + tail[1:]] + behind
                    yield ahead + [head + [tail[0]] + tail] + behind
                    yield ahead + [head + [chance.randint(1, many)] + tail[1:]] + behind
                    yield ahead + [head + ["~"] + tail[1:]] + behind
                    yield ahead + [head + tail[1:2] + tail[:1] + tail[2:]] + behind
        yield paper + [[]]
        yield paper + [["a"]]

    def test_one_thing_put_otherwise(self):
        chance = random.Random(41)
        fallen = 0
        for texts, other in list(self.some_papers(41)):
            paper = paper_of(self.shelf, texts, other)
            self.assertTrue(self.judged(texts, other, paper))
            for wrong in self.otherwise(chance, paper):
                fallen += not self.judged(texts, other, wrong)
        self.assertGreater(fallen, 1000)

    def test_unlike_signs_put_otherwise_never_stand(self):
        plain = "abcdefghijklmnopqrstuvwxyz0123456789"
        texts = [built(self.shelf, part) for part in (plain[:11], plain[11:13], plain[13:])]
        other = built(self.shelf, plain)
        paper = self.shown(texts, other)
        for row, items in enumerate(paper):
            ahead, behind = paper[:row], paper[row + 1:]
            self.falls(texts, other, ahead + behind)
            for place, item in enumerate(items):
                head, tail = items[:place], items[place + 1:]
                for wrong in (head + tail, head + [item, item] + tail, head + ["~"] + tail, head + [item, "~"] + tail,
                              tail[:1] + head + [item] + tail[1:] if tail else head):
                    self.falls(texts, other, ahead + [wrong] + behind)
        for wrong in ([], paper[:2], paper + [[]], [[]] + paper, paper[::-1], [paper[0] + paper[1], paper[2]],
                      [paper[0] + paper[1], [], paper[2]], [[], paper[0] + paper[1], paper[2]]):
            self.falls(texts, other, wrong)

    def falls(self, texts, other, paper):
        self.assertIs(self.asked(paper_stands, texts, other, paper), False)
        self.assertFalse(stands_by_rule(self.shelf, texts, other, paper))

    def test_what_is_no_item(self):
        for texts, other in list(self.some_papers(42))[::3]:
            paper = paper_of(self.shelf, texts, other)
            many = self.shelf.many()
            for wrong in NO_ITEMS + [many + 1, -many, [other], (other,), paper]:
                for row, items in enumerate(paper):
                    for place in {0, len(items) // 2, len(items)}:
                        for rest in (items[place:], items[place + 1:]):
                            put = items[:place] + [wrong] + rest
                            self.falls(texts, other, paper[:row] + [put] + paper[row + 1:])
                self.falls(texts, other, paper + [[wrong]])

    def test_truths_are_no_numbers_of_pieces(self):
        leaf = self.shelf.leaf("a")
        self.assertEqual(leaf, 1)
        self.falls([leaf], leaf, [[True]])
        self.assertTrue(self.judged([leaf], leaf, [[1]]))

    def test_each_text_alone_or_all_together_is_not_enough(self):
        one, two = self.shelf.leaf("abcde"), self.shelf.leaf("fghij")
        other = built(self.shelf, "abcdefghij")
        self.assertTrue(spelled(self.shelf, one, [one]) and spelled(self.shelf, two, [two]))
        self.falls([one, two], other, [[one], [two]])
        self.assertTrue(spelled(self.shelf, other, [other]))
        for paper in ([[other], []], [[], [other]], [["abcdefgh"], ["ij"]], [["abcd"], ["efghij"]]):
            self.falls([one, two], other, paper)
        self.assertTrue(self.judged([one, two], other, [["abcde"], ["fghij"]]))
        self.falls([one, two], built(self.shelf, "abcdefghiz"), [["abcde"], ["fghij"]])

    def opened(self, chance, items, turns):
        """The same signs by other items: numbers opened to their parts, leaves to their signs, these put together."""
        row = list(items)
        for turn in range(turns):
            if row:
                place = chance.randrange(len(row))
                row[place:place + 1] = self.parts(row[place])
        return gathered(chance, [sign for item in row for sign in ([item] if isinstance(item, int) else item)])

    def parts(self, item):
        piece = self.shelf.piece(item) if isinstance(item, int) else ("leaf", item)
        return list(piece[1]) if piece[0] == "leaf" else list(piece[1:])

    def test_papers_by_other_items(self):
        chance = random.Random(43)
        for texts, other in self.some_papers(43):
            paper = paper_of(self.shelf, texts, other)
            for turns in (0, 1, 2, 5, 20):
                otherwise = [self.opened(chance, items, turns) for items in paper]
                self.assertTrue(self.judged(texts, other, otherwise))

    def test_papers_of_signs_or_of_leaves_alone(self):
        chance = random.Random(44)
        for turn in range(20):
            plain = drawn_plain(chance, 60)
            parts = [plain[:17], "", plain[17:23], plain[23:]]
            texts = [made_otherwise(self.shelf, chance, part) for part in parts]
            other = made_otherwise(self.shelf, chance, plain)
            for length in range(1, 9):
                self.assertTrue(self.judged(texts, other, [plain_items(part, length) for part in parts]))
            row = leaf_list(self.shelf, other)
            self.assertTrue(self.judged(row, other, [[leaf] for leaf in row]))
            self.assertTrue(self.judged(row, other, [[self.shelf.piece(leaf)[1]] for leaf in row]))
            self.judged(texts, other, [leaf_list(self.shelf, text) for text in texts])

    def test_a_paper_of_more_than_five_texts(self):
        text = times_itself(self.shelf, "12345678", 40)
        self.assertTrue(self.judged([text] * 8, times_itself(self.shelf, "12345678", 43), [[text]] * 8))
        self.falls([text] * 8, times_itself(self.shelf, "12345678", 43), [[text]] * 7)

    def test_no_texts(self):
        self.assertTrue(self.judged([], 0, []))
        self.falls([], self.shelf.leaf("a"), [])
        for paper in ([[]], [["a"]], [[1]], [[], []]):
            self.falls([], 0, paper)
        self.assertTrue(self.judged([0, 0], 0, [[], []]))
        for paper in ([[], ["a"]], [[0], []], [[]], [[], [], []], [[], [""]]):
            self.falls([0, 0], 0, paper)


if __name__ == "__main__":
    unittest.main()
