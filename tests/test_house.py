"""Points 2, 4, 5 and 120: a house, its deeds, and how they are taken back and done again."""

import copy
import random
import unittest

from skeinwood.cutting import put_in, taken_out
from skeinwood.errors import NoName, NoPlace, NoText, NothingDone, TooLong
from skeinwood.house import House
from skeinwood.joining import built, joined, repeated
from skeinwood.rows import rows_in
from skeinwood.shelves import Shelf
from tests.helper import MOST, NOT_PLAIN, ShelfCase, drawn_plain, part_by_pieces, pieces_of, reads, times_itself

NO_NAMES = ["", "A", "a1", "a b", " a", "a ", "a\n", "\t", "abcdefghi", "a" * 30, "\u00e9", "a-b", "`", "{"]
NO_NAMES_OF_ANYTHING = NO_NAMES + [0, 1, -1, True, False, None, [], ["a"], (), ("a",), {}, {"a": "b"}]
# A deed of a house, and the function that tells its text of the texts and numbers that are handed in.
TOLD_BY = {"give": built, "join_to": joined, "put_into": put_in, "take_from": taken_out, "repeat": repeated}


def is_a_name(name):
    return type(name) is str and 1 <= len(name) <= 8 and all(sign in "abcdefghijklmnopqrstuvwxyz" for sign in name)


def plain_told(texts, deed, things):
    """What the deed asks of plain texts by names: a refusal's class, or the name's new text, None where it is gone."""
    name = things[0]
    if deed in ("give", "copy_of") and not is_a_name(name):
        return NoName
    if deed not in ("give", "copy_of") and name not in texts:
        return NoName
    if deed in ("copy_of", "join_to", "put_into") and things[-1] not in texts:
        return NoName
    if deed == "give":
        plain = things[1]
        if type(plain) is not str or any(sign != "\n" and not " " <= sign <= "~" for sign in plain):
            return NoText
        return TooLong if len(plain) > 10000 else plain
    if deed == "drop":
        return None
    if deed in ("copy_of", "join_to"):
        return texts[things[1]] if deed == "copy_of" else texts[name] + texts[things[1]]
    return cut_told(texts, deed, things)


def cut_told(texts, deed, things):
    plain = texts[things[0]]
    if deed == "put_into":
        at = things[1]
        return plain[:at] + texts[things[2]] + plain[at:] if 0 <= at <= len(plain) else NoPlace
    if deed == "take_from":
        begin, end = things[1:]
        return plain[:begin] + plain[end:] if 0 <= begin <= end <= len(plain) else NoPlace
    many = things[1]
    if many < 0:
        return NoPlace
    return TooLong if len(plain) * many > MOST else plain and plain * many


class HouseCase(ShelfCase):
    """A house, plain texts kept beside it, and what each name had behind each deed."""

    def setUp(self):
        self.enter(House())
        self.known = (self.shelf, [])

    def enter(self, house):
        self.house = house
        self.shelf = house.shelf()
        self.plains = [{}]
        self.numbers = [{}]
        self.now = 0
        self.elder = {0: ""}

    def as_told(self):
        """The house has just the names and numbers that it is to have."""
        numbers = self.numbers[self.now]
        told = self.house.names()
        self.assertEqual((told, type(told)), (sorted(numbers), list))
        self.assertEqual({name: self.house.text(name) for name in numbers}, numbers)
        for name in numbers:
            self.assertIs(type(self.house.text(name)), int)

    def due(self, deed, *things):
        """Do a deed, which is refused or done as the plain texts ask; True where it is done."""
        plains, numbers = self.plains[self.now], self.numbers[self.now]
        wish = plain_told(plains, deed, things)
        if isinstance(wish, type):
            self.refused(wish, getattr(self.house, deed), *things)
            self.as_told()
            return False
        beside = copy.deepcopy(self.shelf)
        self.assertIsNone(getattr(self.house, deed)(*things))
        self.assertIs(self.house.shelf(), self.shelf)
        number = self.number_told(beside, numbers, deed, things)
        self.assertEqual(pieces_of(self.shelf), pieces_of(beside))
        del self.plains[self.now + 1:], self.numbers[self.now + 1:]
        for kept, value in ((self.plains, wish), (self.numbers, number)):
            state = dict(kept[-1])
            state.pop(things[0], None)
            if value is not None:
                state[things[0]] = value
            kept.append(state)
        self.now += 1
        if number is not None:
            self.elder[number] = wish
            self.assertEqual(reads(self.shelf, number), wish)
        self.as_told()
        return True

    def number_told(self, shelf, numbers, deed, things):
        """What the functions tell on a shelf with the same pieces."""
        if deed in ("drop", "copy_of"):
            return None if deed == "drop" else numbers[things[1]]
        handed = list(things[1:]) if deed == "give" else [numbers[things[0]]] + list(things[1:])
        if deed in ("join_to", "put_into"):
            handed[-1] = numbers[handed[-1]]
        return TOLD_BY[deed](shelf, *handed)

    def moved(self, deed):
        """Take a deed back, or do it again; refused where there is none. Either puts no piece."""
        step = -1 if deed == "back" else 1
        if not 0 <= self.now + step < len(self.numbers):
            self.refused(NothingDone, getattr(self.house, deed))
        else:
            pieces = pieces_of(self.shelf)
            self.assertIsNone(getattr(self.house, deed)())
            self.assertEqual(pieces_of(self.shelf), pieces)
            self.now += step
        self.as_told()

    def to_the_begin_and_to_the_end(self):
        while self.now > 0:
            self.moved("back")
        self.assertEqual(self.house.names(), [])
        self.moved("back")
        while self.now < len(self.numbers) - 1:
            self.moved("again")
        self.moved("again")

    def elder_ones_read(self):
        for number, plain in self.elder.items():
            self.assertEqual(reads(self.shelf, number), plain)


class NewTest(HouseCase):
    def test_a_new_house(self):
        self.assertEqual(self.house.names(), [])
        self.assertIsInstance(self.house.shelf(), Shelf)
        self.assertEqual(self.house.shelf().many(), 0)
        self.assertIs(self.house.shelf(), self.house.shelf())
        self.moved("back")
        self.moved("again")
        for name in NO_NAMES + ["a", "abcdefgh"]:
            self.refused(NoName, self.house.text, name)

    def test_names_are_sorted_and_the_askers_own(self):
        for name in ("b", "abcdefgh", "zz", "a", "z", "ab"):
            self.due("give", name, "text of " + name)
        told = self.house.names()
        self.assertEqual(told, ["a", "ab", "abcdefgh", "b", "z", "zz"])
        told.clear()
        told.append("q")
        self.as_told()
        self.assertIsNot(self.house.names(), self.house.names())

    def test_what_others_put_on_its_shelf_lies_there(self):
        shelf = self.house.shelf()
        leaf = shelf.leaf("others")
        self.assertEqual(self.house.shelf().piece(leaf), ("leaf", "others"))
        self.due("give", "a", "others")
        self.assertEqual(self.house.text("a"), leaf)
        times_itself(shelf, "12345678", 5)
        self.due("give", "b", "12345678" * 4)
        self.due("join_to", "a", "b")
        self.to_the_begin_and_to_the_end()
        self.assertEqual(shelf.piece(leaf), ("leaf", "others"))

    def test_two_houses_beside_each_other(self):
        other = House()
        self.assertIsNot(other.shelf(), self.house.shelf())
        self.due("give", "a", "the text of one house")
        self.assertEqual((other.names(), other.shelf().many()), ([], 0))
        other.give("b", "another text")
        other.give("a", "and one more")
        other.drop("b")
        self.as_told()
        self.moved("back")
        self.assertEqual(other.names(), ["a"])
        other.back()
        self.moved("again")
        self.assertEqual(other.names(), ["a", "b"])
        self.assertEqual(reads(other.shelf(), other.text("b")), "another text")


class DeedsTest(HouseCase):
    def test_given(self):
        for plain in ("", "a", "\n", "12345678", "123456789", "Skein, wood.\n" * 20, "~" * 9999, "ab\n " * 2500):
            self.due("give", "a", plain)
            self.due("give", "other", plain)
        self.to_the_begin_and_to_the_end()

    def test_copied_of_another_and_of_itself(self):
        self.due("give", "a", "some words\n" * 3)
        self.due("copy_of", "b", "a")
        self.assertEqual(self.house.text("a"), self.house.text("b"))
        self.due("copy_of", "a", "a")
        self.due("give", "a", "others")
        self.due("copy_of", "b", "a")
        self.due("copy_of", "abcdefgh", "b")
        self.to_the_begin_and_to_the_end()

    def test_joined_put_in_taken_from_repeated_and_dropped(self):
        self.due("give", "a", "Skein, wood.\n")
        self.due("give", "b", "and more of it, ")
        self.due("join_to", "a", "b")
        self.due("join_to", "a", "a")
        self.due("put_into", "b", 0, "a")
        self.due("put_into", "b", 7, "b")
        self.due("put_into", "a", len(self.plains[self.now]["a"]), "b")
        self.due("take_from", "a", 3, 30)
        self.due("take_from", "a", 5, 5)
        self.due("take_from", "b", 0, len(self.plains[self.now]["b"]))
        self.due("repeat", "a", 3)
        self.due("repeat", "b", 3)
        self.due("repeat", "a", 1)
        self.due("repeat", "a", 0)
        self.due("drop", "a")
        self.due("drop", "b")
        self.assertEqual(self.now, 16)
        self.to_the_begin_and_to_the_end()
        self.elder_ones_read()

    def test_deeds_that_leave_all_as_it_was_are_deeds(self):
        self.due("give", "a", "the same text")
        self.due("give", "b", "")
        for deed in (("give", "a", "the same text"), ("copy_of", "a", "a"), ("join_to", "a", "b"), ("repeat", "a", 1),
                     ("put_into", "a", 4, "b"), ("take_from", "a", 4, 4), ("repeat", "b", 10 ** 29), ("give", "b", "")):
            self.assertTrue(self.due(*deed))
        self.assertEqual(self.now, 10)
        self.assertEqual(self.numbers[2:], [self.numbers[2]] * 9)
        for turn in range(8):
            self.moved("back")
        self.assertEqual(self.house.names(), ["a", "b"])
        self.moved("back")
        self.assertEqual(self.house.names(), ["a"])
        self.to_the_begin_and_to_the_end()

    def test_a_new_deed_behind_a_taking_back(self):
        for plain in ("one", "two", "three"):
            self.due("give", "a", plain)
        self.moved("back")
        self.moved("back")
        self.due("give", "b", "another")
        self.moved("again")
        self.moved("back")
        self.moved("again")
        self.moved("again")
        self.assertEqual(self.house.names(), ["a", "b"])
        self.to_the_begin_and_to_the_end()
        self.elder_ones_read()

    def test_a_deed_that_changes_nothing_behind_a_taking_back(self):
        self.due("give", "a", "one")
        self.due("give", "a", "two")
        self.moved("back")
        self.due("copy_of", "a", "a")
        self.moved("again")
        self.assertEqual(reads(self.shelf, self.house.text("a")), "one")

    def test_a_refused_deed_behind_a_taking_back(self):
        self.due("give", "a", "one")
        self.due("give", "b", "two")
        self.moved("back")
        for deed in (("give", "A", "x"), ("give", "a", "\t"), ("give", "a", "a" * 10001), ("copy_of", "a", "b"),
                     ("copy_of", "", "a"), ("join_to", "a", "b"), ("join_to", "b", "a"), ("put_into", "a", 4, "a"),
                     ("put_into", "a", 0, "b"), ("take_from", "a", 1, 0), ("take_from", "a", 0, 4), ("repeat", "a", -1),
                     ("repeat", "a", MOST), ("drop", "b")):
            self.assertFalse(self.due(*deed))
        self.moved("again")
        self.assertEqual(self.house.names(), ["a", "b"])
        self.moved("again")
        self.to_the_begin_and_to_the_end()

    def test_taken_back_to_the_very_numbers_whatever_lies_there_since(self):
        self.due("give", "a", "some words and others\n")
        self.due("repeat", "a", 9)
        self.moved("back")
        built(self.shelf, "some words and others\n" * 9 + "and more")
        joined(self.shelf, self.house.text("a"), self.house.text("a"))
        self.moved("again")
        self.moved("back")
        self.moved("back")
        self.to_the_begin_and_to_the_end()

    def test_a_name_that_comes_and_goes(self):
        for turn in range(3):
            self.due("give", "a", "text " + str(turn))
            self.due("drop", "a")
            self.assertFalse(self.due("drop", "a"))
            self.refused(NoName, self.house.text, "a")
        self.to_the_begin_and_to_the_end()


class RefusedTest(HouseCase):
    def test_what_is_no_name(self):
        self.due("give", "a", "some text")
        for wrong in NO_NAMES_OF_ANYTHING:
            for plain in ("some text", "", "\t", None, "a" * 10001, 7):
                self.refused(NoName, self.house.give, wrong, plain)
            self.refused(NoName, self.house.copy_of, wrong, "a")
            self.refused(NoName, self.house.copy_of, wrong, "b")
        for wrong in NO_NAMES_OF_ANYTHING:
            self.refused(NoName, self.house.text, wrong)
        for wrong in NO_NAMES + ["b", "aa"]:
            self.refused(NoName, self.house.text, wrong)
            self.refused(NoName, self.house.copy_of, "a", wrong)
            self.refused(NoName, self.house.copy_of, "new", wrong)
            self.refused(NoName, self.house.join_to, "a", wrong)
            self.refused(NoName, self.house.join_to, wrong, "a")
            self.refused(NoName, self.house.join_to, wrong, wrong)
            self.refused(NoName, self.house.drop, wrong)
            for number in (0, 5, -1, 10, 10 ** 29):
                self.refused(NoName, self.house.put_into, "a", number, wrong)
                self.refused(NoName, self.house.put_into, wrong, number, "a")
                self.refused(NoName, self.house.take_from, wrong, number, 0)
                self.refused(NoName, self.house.repeat, wrong, number)
        self.as_told()
        self.to_the_begin_and_to_the_end()

    def test_what_is_no_plain_text(self):
        self.due("give", "a", "some text")
        for wrong in NOT_PLAIN:
            self.refused(NoText, self.house.give, "a", wrong)
            self.refused(NoText, self.house.give, "new", wrong)
        for signs in (10001, 20000):
            self.refused(TooLong, self.house.give, "a", "a" * signs)
            self.refused(NoText, self.house.give, "a", "a" * signs + "\t")
        self.as_told()
        self.to_the_begin_and_to_the_end()

    def test_no_place(self):
        self.due("give", "a", "some text")
        self.due("give", "b", "")
        for at in (-1, 10, 10 ** 29, -(10 ** 29)):
            self.assertFalse(self.due("put_into", "a", at, "b"))
            self.assertFalse(self.due("put_into", "a", at, "a"))
            self.assertFalse(self.due("take_from", "a", at, 5))
            self.assertFalse(self.due("take_from", "a", 5, at))
            self.assertFalse(self.due("put_into", "b", at, "a"))
        for begin, end in ((1, 0), (9, 8), (10, 10), (-1, -1), (0, 10), (-1, 10)):
            self.assertFalse(self.due("take_from", "a", begin, end))
        for many in (-1, -2, -(10 ** 29)):
            self.assertFalse(self.due("repeat", "a", many))
            self.assertFalse(self.due("repeat", "b", many))
        self.to_the_begin_and_to_the_end()

    def test_too_long(self):
        self.house.give("a", "12345")
        self.house.repeat("a", MOST // 5)
        self.house.give("b", "1")
        self.assertEqual(self.shelf.signs(self.house.text("a")), MOST)
        self.refused(TooLong, self.house.join_to, "a", "b")
        self.refused(TooLong, self.house.join_to, "b", "a")
        self.refused(TooLong, self.house.join_to, "a", "a")
        for at in (0, 1, MOST // 2, MOST):
            self.refused(TooLong, self.house.put_into, "a", at, "b")
        for at in (-1, MOST + 1):
            self.refused(NoPlace, self.house.put_into, "a", at, "b")
        for many in (2, 3, 10 ** 29):
            self.refused(TooLong, self.house.repeat, "a", many)
        self.refused(TooLong, self.house.repeat, "b", MOST + 1)
        self.refused(NoPlace, self.house.repeat, "a", -1)
        self.refused(NoName, self.house.join_to, "a", "c")
        self.refused(NoName, self.house.put_into, "a", -1, "c")
        self.house.repeat("b", MOST)
        self.assertEqual(self.shelf.signs(self.house.text("b")), MOST)

    def test_nothing_done(self):
        self.moved("back")
        self.moved("again")
        self.due("give", "a", "text")
        self.moved("again")
        self.moved("back")
        self.moved("back")
        self.moved("again")
        self.moved("again")
        self.assertFalse(self.due("drop", "b"))
        self.moved("again")
        self.moved("back")
        self.moved("back")


class DrawnTest(HouseCase):
    def drawn_deed(self, chance):
        """A deed of any kind, most of them good, some refused."""
        names = ["a", "b", "abcdefgh", "z"]
        plains = self.plains[self.now]
        name, other = chance.choice(names), chance.choice(names * 5 + ["nobody", "A"])
        signs = len(plains.get(name, ""))
        number = chance.randint(-1, signs + 1) if chance.randrange(8) == 0 else chance.randint(0, signs)
        further = chance.randint(-1, signs + 1) if chance.randrange(8) == 0 else chance.randint(0, signs)
        if chance.randrange(8):
            number, further = sorted([number, further])
        kind = chance.choice(["give", "copy_of", "join_to", "put_into", "take_from"] * 3 + ["repeat", "repeat", "drop"])
        return {
            "give": ("give", name, drawn_plain(chance, chance.choice([0, 1, 5, 9, 30, 100]))),
            "copy_of": ("copy_of", name, other), "join_to": ("join_to", name, other),
            "put_into": ("put_into", name, number, other), "take_from": ("take_from", name, number, further),
            "repeat": ("repeat", name, chance.choice([-1, 0, 1, 1, 2, 3] if signs < 300 else [-1, 0, 1, MOST])),
            "drop": ("drop", name),
        }[kind]

    def drawn_row(self, seed, turns):
        chance = random.Random(seed)
        for name in ("a", "b", "abcdefgh", "z"):
            self.due("give", name, drawn_plain(chance, 20))
        for turn in range(turns):
            if max(map(len, self.plains[self.now].values()), default=0) > 1500:
                self.moved("back")
            step = chance.randrange(12)
            if step < 2:
                for further in range(chance.randint(1, 4)):
                    self.moved("back" if step == 0 else "again")
            else:
                self.due(*self.drawn_deed(chance))

    def test_rows_of_drawn_deeds(self):
        for seed in range(8):
            self.know()
            self.enter(House())
            self.drawn_row(seed, 150)
            self.to_the_begin_and_to_the_end()
            self.elder_ones_read()
            self.sound()

    def test_the_same_deeds_tell_the_same_numbers(self):
        self.drawn_row(31, 120)
        first = (pieces_of(self.shelf), self.numbers)
        self.know()
        self.enter(House())
        self.drawn_row(31, 120)
        self.assertEqual((pieces_of(self.shelf), self.numbers), first)

    def test_back_and_again_at_each_deed(self):
        chance = random.Random(32)
        for turn in range(60):
            self.due(*self.drawn_deed(chance))
            if max(map(len, self.plains[self.now].values()), default=0) > 1500:
                self.moved("back")
            self.moved("back")
            self.moved("again")


class LongTest(HouseCase):
    def test_long_texts_by_repeat(self):
        house = self.house
        house.give("a", "some words\n")
        house.repeat("a", 10 ** 16)
        house.copy_of("b", "a")
        house.give("c", "and others\n")
        house.put_into("b", 11 * 10 ** 15, "c")
        house.join_to("b", "a")
        house.take_from("a", 5, 11 * 10 ** 16 - 6)
        shelf = house.shelf()
        self.assertEqual(shelf.signs(house.text("b")), 22 * 10 ** 16 + 11)
        self.assertEqual(rows_in(shelf, house.text("b")), 2 * 10 ** 16 + 2)
        place = 11 * 10 ** 15
        told = part_by_pieces(shelf, house.text("b"), place - 11, place + 22)
        self.assertEqual(told, "some words\nand others\nsome words\n")
        self.assertEqual(reads(shelf, house.text("a")), "some words\n")
        numbers = []
        while house.names():
            numbers.append([house.text(name) for name in house.names()])
            house.back()
        self.assertEqual(len(numbers), 7)
        self.assertEqual([shelf.signs(row[0]) for row in numbers], [11] + [11 * 10 ** 16] * 5 + [11])
        for row in numbers[::-1]:
            house.again()
            self.assertEqual([house.text(name) for name in house.names()], row)
        self.refused(NothingDone, house.again)
        self.sound()


if __name__ == "__main__":
    unittest.main()
