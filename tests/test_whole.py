"""Points 1, 2 and 5: the promise over the whole program, by rows of drawn deeds of all kinds."""

import random
import unittest

from skeinwood.cutting import cut_at, kept_part, put_in, taken_out
from skeinwood.desk import Desk
from skeinwood.finding import count_of, place_of
from skeinwood.heights import leanest, least_leaves, least_signs, most_height
from skeinwood.house import House
from skeinwood.joining import built, joined, repeated
from skeinwood.likes import held_together, told_stands
from skeinwood.papers import paper_of, paper_stands
from skeinwood.reading import sign_at, stretch_of, whole_text
from skeinwood.rows import row_at, row_begin, row_text, rows_in
from skeinwood.shelftexts import read_shelf, shelf_text
from skeinwood.spelling import begins_text, items_signs, spells
from skeinwood.sweeping import reach_of, shared, swept
from skeinwood.ways import way_stands, way_to
from tests.helper import MOST, ShelfCase, drawn_plain, leaf_list, pieces_of, reads


class Plain:
    """A plain text that is never written out: what it is made of, and how many signs it has."""

    def __init__(self, signs, sign):
        self.signs = signs
        self.sign = sign

    def between(self, begin, end):
        return "".join(self.sign(place) for place in range(begin, end))


def plain_of(text):
    return Plain(len(text), lambda place: text[place])


def behind(one, other):
    def sign(place):
        return one.sign(place) if place < one.signs else other.sign(place - one.signs)
    return Plain(one.signs + other.signs, sign)


def part(text, begin, end):
    return Plain(end - begin, lambda place: text.sign(begin + place))


def times(text, many):
    return Plain(text.signs * many, lambda place: text.sign(place % text.signs))


class WholeCase(ShelfCase):
    def bounded(self, factor, deed, *things):
        """A deed with at most so many times the greatest height and one new pieces; h is that of all texts."""
        texts = [things[0]] if deed is not joined else list(things)
        if deed is put_in:
            texts.append(things[-1])
        height = max(self.shelf.height(text) for text in texts)
        return self.done(factor * (height + 1), deed, *things)

    def drawn(self, chance, texts):
        """A text and its plain text as drawn, long ones more often, since cutting leaves many short ones."""
        some = [chance.choice(texts) for turn in range(chance.choice([1, 3, 5]))]
        return max(some, key=lambda pair: self.shelf.signs(pair[0]))

    def height_is_told(self, text):
        signs = self.shelf.signs(text)
        if text != 0:
            self.assertLessEqual(self.shelf.height(text), most_height(signs))
            self.assertGreaterEqual(self.shelf.leaves(text), least_leaves(self.shelf.height(text)))
            self.assertGreaterEqual(signs, least_signs(self.shelf.height(text)))


class LowTest(WholeCase):
    def deed(self, chance, texts):
        """One deed as drawn: the texts that it tells, each with the plain text that it makes."""
        (one, plain), (other, further) = self.drawn(chance, texts), self.drawn(chance, texts)
        begin, end = sorted([chance.randint(0, len(plain)), chance.randint(0, len(plain))])
        kind = chance.randrange(9)
        if kind == 0:
            new = drawn_plain(chance, chance.choice([0, 1, 3, 8, 9, 25, 60]), "ab\n")
            return [(self.done(None, built, new), new)]
        if kind == 1:
            return [(self.bounded(16, joined, one, other), plain + further)]
        if kind == 2:
            pair = self.bounded(64, cut_at, one, begin)
            return [(pair[0], plain[:begin]), (pair[1], plain[begin:])]
        if kind == 3:
            return [(self.bounded(200, put_in, one, begin, other), plain[:begin] + further + plain[begin:])]
        if kind == 4:
            return [(self.bounded(200, taken_out, one, begin, end), plain[:begin] + plain[end:])]
        if kind == 5:
            return [(self.bounded(200, kept_part, one, begin, end), plain[begin:end])]
        if kind == 6:
            many = chance.randrange(4)
            return [(self.done(None, repeated, one, many), plain * many)]
        if kind == 7:
            lean = self.done(None, leanest, chance.randrange(7))
            return [(lean, reads(self.shelf, lean))]
        leaf = drawn_plain(chance, chance.randint(1, 8), "ab\n")
        return [(self.shelf.leaf(leaf), leaf)]

    def row_of_deeds(self, chance, texts, turns):
        for turn in range(turns):
            for text, plain in self.deed(chance, texts):
                self.assertEqual(whole_text(self.shelf, text), plain)
                self.height_is_told(text)
                if len(plain) <= 1200:
                    texts.append((text, plain))

    def all_read(self, texts):
        for text, plain in texts:
            self.assertEqual(reads(self.shelf, text), plain)

    def test_each_text_and_each_elder_one_reads_as_the_deeds_make_it(self):
        for seed in range(4):
            self.know()
            self.setUp()
            chance = random.Random(seed)
            texts = [(0, "")]
            for turn in range(4):
                self.row_of_deeds(chance, texts, 60)
                self.all_read(texts)
                self.sound()

    def test_what_is_asked_of_them(self):
        chance = random.Random(11)
        texts = [(0, "")]
        self.row_of_deeds(chance, texts, 120)
        for turn in range(200):
            self.asked_well(chance, *chance.choice(texts))
            self.pair_asked_well(chance.choice(texts), chance.choice(texts))
        self.all_read(texts)

    def asked_well(self, chance, text, plain):
        shelf = self.shelf
        for place in sorted({chance.randrange(len(plain)) for turn in range(3)}) if plain else []:
            way = self.asked(way_to, text, place)
            self.assertLessEqual(len(way), shelf.height(text) + 1)
            self.assertTrue(self.asked(way_stands, text, place, way, plain[place]))
            self.assertEqual(self.asked(sign_at, text, place), plain[place])
            row = plain[:place].count("\n")
            begin = plain.rfind("\n", 0, place) + 1
            self.assertEqual(self.asked(row_at, text, place), (row, place - begin))
            self.assertEqual(self.asked(row_begin, text, row), begin)
            self.assertEqual(self.asked(row_text, text, row), plain.split("\n")[row])
            word = plain[place:place + chance.randint(1, 8)]
            places = [at for at in range(len(plain)) if plain.startswith(word, at)]
            self.assertEqual(self.asked(count_of, text, word), len(places))
            k = chance.randrange(len(places))
            self.assertEqual(self.asked(place_of, text, word, k), places[k])
        self.assertEqual(self.asked(rows_in, text), plain.count("\n") + 1)
        leaves = leaf_list(shelf, text)
        self.assertTrue(self.asked(spells, text, leaves))
        self.assertTrue(self.asked(begins_text, text, leaves[:-1]))
        self.assertEqual(self.asked(items_signs, leaves), len(plain))

    def pair_asked_well(self, one, other):
        told = self.asked(held_together, one[0], other[0])
        self.assertEqual(told[0], "alike" if one[1] == other[1] else "apart")
        self.assertTrue(self.asked(told_stands, one[0], other[0], told))
        both = joined(self.shelf, one[0], other[0])
        for texts in ([one[0], other[0]], [other[0], one[0]]):
            paper = self.asked(paper_of, texts, both)
            reading = "".join(reads(self.shelf, text) for text in texts)
            self.assertEqual(paper is not None, reading == reads(self.shelf, both))
            self.assertTrue(paper is None or self.asked(paper_stands, texts, both, paper))
        common = self.asked(shared, one[0], both)
        self.assertEqual(common, [number for number in reach_of(self.shelf, [one[0]])
                                  if number in reach_of(self.shelf, [both])])

    def test_swept_and_written_between_deeds(self):
        for seed in range(20, 23):
            chance = random.Random(seed)
            self.know()
            self.setUp()
            texts = [(0, "")]
            for turn in range(6):
                self.row_of_deeds(chance, texts, 25)
                kept = chance.sample(texts, min(len(texts), 8))
                new, numbers = swept(self.shelf, [text for text, plain in kept])
                self.know()
                self.shelf = new if turn % 2 else read_shelf(shelf_text(new))
                self.assertEqual(pieces_of(self.shelf), pieces_of(new))
                texts = [(0, "")] + [(number, plain) for number, (text, plain) in zip(numbers, kept)]
                self.all_read(texts)
                self.sound()

    def test_the_same_deeds_tell_the_same_numbers_on_another_shelf(self):
        told = []
        for turn in range(2):
            self.know()
            self.setUp()
            texts = [(0, "")]
            self.row_of_deeds(random.Random(31), texts, 100)
            told.append((texts, pieces_of(self.shelf)))
        self.assertEqual(told[0], told[1])


class LongTest(WholeCase):
    def deed(self, chance, texts):
        (one, plain), (other, further) = self.drawn(chance, texts), self.drawn(chance, texts)
        begin, end = sorted([chance.randint(0, plain.signs), chance.randint(0, plain.signs)])
        kind = chance.randrange(7)
        if kind == 0:
            new = drawn_plain(chance, chance.choice([1, 3, 8, 9, 25]), "ab\n")
            return [(built(self.shelf, new), plain_of(new))]
        if kind == 1 and plain.signs > 0:
            most = MOST // plain.signs
            many = min(most, chance.choice([2, 3, 10, 1234567, 10 ** 15]))
            return [(self.done(None, repeated, one, many), times(plain, many))]
        if kind == 2:
            pair = self.bounded(64, cut_at, one, begin)
            self.papered(list(pair), one)
            return [(pair[0], part(plain, 0, begin)), (pair[1], part(plain, begin, plain.signs))]
        if kind == 3:
            text = self.bounded(200, taken_out, one, begin, end)
            return [(text, behind(part(plain, 0, begin), part(plain, end, plain.signs)))]
        if kind == 4:
            return [(self.bounded(200, kept_part, one, begin, end), part(plain, begin, end))]
        if plain.signs + further.signs > MOST:
            return []
        if kind == 5:
            text = self.bounded(16, joined, one, other)
            self.papered([one, other], text)
            return [(text, behind(plain, further))]
        text = self.bounded(200, put_in, one, begin, other)
        pair = cut_at(self.shelf, one, begin)
        paper = paper_of(self.shelf, [pair[0], other, pair[1]], text)
        self.assertTrue(paper_stands(self.shelf, [pair[0], other, pair[1]], text, paper))
        return [(text, behind(part(plain, 0, begin), behind(further, part(plain, begin, plain.signs))))]

    def papered(self, texts, other):
        paper = self.asked(paper_of, texts, other)
        self.assertTrue(self.asked(paper_stands, texts, other, paper))
        height = max(self.shelf.height(text) for text in texts + [other])
        self.assertLessEqual(sum(map(len, paper)), 64 * (height + 1))

    def reads_so(self, chance, text, plain):
        signs = self.shelf.signs(text)
        self.assertEqual(signs, plain.signs)
        for place in {0, signs // 2, signs} | {chance.randint(0, signs) for turn in range(3)}:
            begin, end = max(place - 15, 0), min(place + 15, signs)
            self.assertEqual(stretch_of(self.shelf, text, begin, end), plain.between(begin, end))
        self.height_is_told(text)

    def test_very_long_texts(self):
        for seed in range(8):
            self.know()
            self.setUp()
            chance = random.Random(seed)
            texts = []
            for plain, many in (("some words\n", 10 ** 15), ("ab", 10 ** 17), ("a row and more\n", 7), ("~", 10 ** 9)):
                texts.append((repeated(self.shelf, built(self.shelf, plain), many), times(plain_of(plain), many)))
            for turn in range(80):
                for text, plain in self.deed(chance, texts):
                    self.reads_so(chance, text, plain)
                    texts.append((text, plain))
            for text, plain in texts:
                self.reads_so(chance, text, plain)
            self.sound()
            new, numbers = swept(self.shelf, [text for text, plain in texts[-10:]])
            self.shelf = read_shelf(shelf_text(new))
            self.know()
            for number, (text, plain) in zip(numbers, texts[-10:]):
                self.reads_so(chance, number, plain)

    def test_the_leanest_texts_are_as_high_as_told(self):
        for height in range(83):
            text = self.done(None, leanest, height)
            self.assertEqual(self.shelf.height(text), height)
            self.assertEqual(most_height(self.shelf.signs(text)), height)
            self.assertEqual(self.shelf.leaves(text), least_leaves(height))
        self.sound()


class HouseTest(WholeCase):
    def test_a_house_a_desk_and_the_functions_tell_the_same(self):
        chance = random.Random(41)
        house, desk = House(), Desk()
        plains = {}
        for turn in range(150):
            name, other = chance.choice("abc"), chance.choice("abc")
            if name not in plains or other not in plains or len(plains[name]) > 800:
                plain = drawn_plain(chance, 30, "ab\n")
                house.give(name, plain)
                desk.say("new " + name + " " + plain.replace("\n", "\\n"))
                plains[name] = plain
                continue
            plain = plains[name]
            begin, end = sorted([chance.randint(0, len(plain)), chance.randint(0, len(plain))])
            if chance.randrange(3) == 0:
                house.put_into(name, begin, other)
                desk.say("put {} {} {}".format(name, begin, other))
                plains[name] = plain[:begin] + plains[other] + plain[begin:]
            elif chance.randrange(2):
                house.take_from(name, begin, end)
                desk.say("take {} {} {}".format(name, begin, end))
                plains[name] = plain[:begin] + plain[end:]
            else:
                house.join_to(name, other)
                desk.say("join {} {}".format(name, other))
                plains[name] = plain + plains[other]
            self.assertEqual(desk.say("pieces"), str(house.shelf().many()))
            for name, plain in plains.items():
                self.assertEqual(reads(house.shelf(), house.text(name)), plain)
                told = desk.say("read {} 0 {}".format(name, len(plain)))
                self.assertEqual(told, plain.replace("\n", "\\n"))
        self.shelf = house.shelf()
        self.sound()
        while house.names():
            house.back()
            desk.say("back")
        self.assertEqual(desk.say("names"), "-")


if __name__ == "__main__":
    unittest.main()
