"""Points 2, 4, 5, 80 and 90: two texts held together, and what may be told of them."""

import random
import unittest

from skeinwood.cutting import put_in, taken_out
from skeinwood.errors import TooLong
from skeinwood.heights import leanest
from skeinwood.joining import built, joined, repeated
from skeinwood.likes import held_together, told_stands
from skeinwood.spelling import common_items, items_signs
from tests.helper import (
    MOST, NO_ITEMS, ShelfCase, begun, by_chunks, drawn_plain, drawn_row, gathered, leaf_list, long_texts,
    made_otherwise, plain_items, reads, sign_by_pieces, some_text, spelled, spread, times_itself,
)


def alike_begin(one, other):
    """How many signs two plain texts have in common from their begin on."""
    many = 0
    while many < min(len(one), len(other)) and one[many] == other[many]:
        many += 1
    return many


def sign_behind(shelf, text, items):
    """The sign of the text at the place behind the items, the text without signs where it ends there."""
    place = sum(len(item) if isinstance(item, str) else shelf.signs(item) for item in items)
    return sign_by_pieces(shelf, text, place) if place < shelf.signs(text) else ""


def stands_by_rule(shelf, one, other, told):
    """Whether this may be told of both, by the document's rules."""
    if told[0] == "alike":
        return spelled(shelf, one, told[1]) and spelled(shelf, other, told[1])
    items, sign, further = told[1:]
    if not begun(shelf, one, items) or not begun(shelf, other, items):
        return False
    return (sign, further) == (sign_behind(shelf, one, items), sign_behind(shelf, other, items)) and sign != further


class LikesCase(ShelfCase):
    def judged(self, one, other, told):
        """What the judge says, which is what the document's rules say, and of the two the other way round, too."""
        stands = self.asked(told_stands, one, other, told)
        self.assertIs(stands, stands_by_rule(self.shelf, one, other, told))
        turned = told[:2] + told[:1:-1]
        self.assertIs(self.asked(told_stands, other, one, turned), stands)
        return stands

    def falls(self, one, other, told):
        self.assertFalse(self.judged(one, other, told))

    def held(self, one, other):
        """What is told of both, which is what their plain texts ask, and stands."""
        told = self.asked(held_together, one, other)
        self.assertIs(type(told), tuple)
        self.assertIs(type(told[1]), list)
        plain, further = reads(self.shelf, one), reads(self.shelf, other)
        if plain == further:
            self.assertEqual((told[0], len(told)), ("alike", 2))
        else:
            many = alike_begin(plain, further)
            self.assertEqual((told[0],) + told[2:], ("apart", plain[many:many + 1], further[many:many + 1]))
        self.assertTrue(self.judged(one, other, told))
        return told


class HeldTogetherTest(LikesCase):
    def test_alike_ones_of_other_shapes(self):
        chance = random.Random(1)
        for signs in (0, 1, 2, 7, 8, 9, 10, 16, 17, 25, 40, 59):
            for letters in ("a", "ab\n", "abcdefgh"):
                plain = drawn_plain(chance, signs, letters)
                texts = {some_text(self.shelf, chance, plain) for turn in range(3)}
                texts |= {made_otherwise(self.shelf, chance, plain) for turn in range(3)}
                for one in texts:
                    for other in texts:
                        self.assertEqual(self.held(one, other)[0], "alike")

    def test_apart_at_the_first_a_drawn_and_the_last_place(self):
        chance = random.Random(2)
        for signs in (1, 2, 7, 8, 9, 10, 16, 17, 25, 40, 90):
            plain = drawn_plain(chance, signs, "ab\n")
            for place in {0, chance.randrange(signs), signs - 1}:
                for sign in "~\n ":
                    wrong = plain[:place] + sign + plain[place + 1:]
                    one = made_otherwise(self.shelf, chance, plain)
                    other = made_otherwise(self.shelf, chance, wrong)
                    self.assertEqual(self.held(one, other)[0], "alike" if plain == wrong else "apart")
                    self.held(other, one)

    def test_every_place_over_the_seams_of_leaves(self):
        chance = random.Random(3)
        plain = "abcdefghijklmnopqrstuvwxyz0123456789"
        one = some_text(self.shelf, chance, plain)
        for place in range(len(plain)):
            other = some_text(self.shelf, chance, plain[:place] + "~" + plain[place + 1:])
            told = self.held(one, other)
            self.assertEqual(told[2:], (plain[place], "~"))
            self.assertEqual(self.held(other, one)[2:], ("~", plain[place]))

    def test_one_that_begins_the_other(self):
        chance = random.Random(4)
        for turn in range(60):
            plain = drawn_plain(chance, chance.randint(1, 60), "ab")
            signs = chance.randrange(len(plain))
            one = made_otherwise(self.shelf, chance, plain[:signs])
            other = made_otherwise(self.shelf, chance, plain)
            self.assertEqual(self.held(one, other)[2:], ("", plain[signs]))
            self.assertEqual(self.held(other, one)[2:], (plain[signs], ""))

    def test_the_text_without_signs(self):
        self.assertEqual(self.held(0, 0), ("alike", []))
        for plain in ("a", "\n", "12345678", "123456789", "some more words\n" * 5):
            text = built(self.shelf, plain)
            self.assertEqual(self.held(0, text), ("apart", [], "", plain[0]))
            self.assertEqual(self.held(text, 0), ("apart", [], plain[0], ""))

    def test_drawn_at_will(self):
        chance = random.Random(5)
        for turn in range(400):
            plains = [drawn_plain(chance, chance.randrange(25), chance.choice(["a", "ab"])) for two in "ab"]
            self.held(*[made_otherwise(self.shelf, chance, plain) for plain in plains])

    def test_just_ten_thousand_signs(self):
        chance = random.Random(6)
        for letters in ("a", "ab\n", "abcdefgh"):
            plain = drawn_plain(chance, 10000, letters)
            one = by_chunks(self.shelf, chance, plain)
            self.assertEqual(self.held(one, built(self.shelf, plain))[0], "alike")
            for place in (0, chance.randrange(10000), 9999):
                other = by_chunks(self.shelf, chance, plain[:place] + "~" + plain[place + 1:])
                self.assertEqual(self.held(one, other)[2:], (plain[place], "~"))
            self.held(one, built(self.shelf, plain[:-1]))
            self.held(0, one)

    def test_one_number_however_long(self):
        for text in list(long_texts(self.shelf)) + [spread(self.shelf, 10001), spread(self.shelf, 10000)]:
            told = self.asked(held_together, text, text)
            self.assertEqual((told[0], len(told)), ("alike", 2))
            self.assertTrue(self.judged(text, text, told))

    def test_too_long(self):
        chance = random.Random(7)
        plain = drawn_plain(chance, 10000)
        most = built(self.shelf, plain)
        more = joined(self.shelf, most, self.shelf.leaf("a"))
        more_again = joined(self.shelf, self.shelf.leaf(plain[:1]), built(self.shelf, plain[1:] + "a"))
        self.assertEqual(self.shelf.signs(more), 10001)
        self.assertNotEqual(more, more_again)
        longer = [more, more_again, spread(self.shelf, 10001), spread(self.shelf, MOST), leanest(self.shelf, 82)]
        for long in longer:
            for other in longer + [0, 1, most, built(self.shelf, "a")]:
                if other != long:
                    self.refused(TooLong, held_together, self.shelf, long, other)
                    self.refused(TooLong, held_together, self.shelf, other, long)

    def test_no_piece_goes_ahead(self):
        for turn in range(4):
            for text in (0, self.shelf.many()):
                self.no_piece(held_together, None, text)
                self.no_piece(held_together, text, None)
            self.no_piece(held_together, None, None)
            times_itself(self.shelf, "12345678", 18 * turn)


class ToldStandsTest(LikesCase):
    def some_pairs(self, seed):
        """Pairs of low texts, alike and apart, and of very long ones that share most of their pieces."""
        chance = random.Random(seed)
        for turn in range(20):
            plain = drawn_plain(chance, chance.randint(0, 40), "ab\n")
            further = chance.choice([plain, plain + "b", drawn_plain(chance, 20, "ab\n"), plain[:9] + "~" + plain[9:]])
            yield made_otherwise(self.shelf, chance, plain), made_otherwise(self.shelf, chance, further)

    def otherwise(self, chance, told):
        """What was told with one thing put otherwise, in many ways."""
        head, items, signs = told[0], told[1], told[2:]
        many = self.shelf.many()
        if head == "alike":
            yield from [("apart", items, sign, other) for sign in ("", "a") for other in ("", "a", "\n")]
        else:
            yield ("alike", items)
            yield (head, items) + signs[::-1]
            for sign in ("", "a", "\n", "~", "ab", "\t", signs[0], signs[1], signs[0] + signs[1]):
                yield (head, items, sign, signs[1])
                yield (head, items, signs[0], sign)
                yield (head, items, sign, sign)
        for place in range(len(items) + 1):
            ahead, behind = items[:place], items[place:]
            rows = [ahead + [chance.randint(1, max(many, 1))] + behind, ahead + [chance.choice("ab\n~")] + behind]
            if behind:
                rows += [ahead, ahead + behind[1:], ahead + [behind[0]] + behind, ahead + ["~"] + behind[1:],
                         ahead + behind[1:2] + behind[:1] + behind[2:], ahead + [chance.randint(1, many)] + behind[1:]]
            yield from [(head, row) + signs for row in rows]

    def test_one_thing_put_otherwise(self):
        chance = random.Random(11)
        fallen = 0
        for one, other in self.some_pairs(11):
            told = held_together(self.shelf, one, other)
            self.assertTrue(self.judged(one, other, told))
            for wrong in self.otherwise(chance, told):
                fallen += not self.judged(one, other, wrong)
        self.assertGreater(fallen, 500)

    def test_unlike_signs_put_otherwise_never_stand(self):
        one, other = built(self.shelf, "abcdefghijklmnopqr"), built(self.shelf, "abcdefghijkl~~")
        told = self.held(one, other)
        self.assertEqual(told[2:], ("m", "~"))
        items = told[1]
        for wrong in (("alike", items), ("alike", [one]), ("apart", items, "~", "m"), ("apart", items, "m", "m"),
                      ("apart", items, "m", ""), ("apart", items, "", "~"), ("apart", items, "", ""),
                      ("apart", items[:-1], "m", "~"), ("apart", items + ["m"], "m", "~"), ("apart", [], "m", "~"),
                      ("apart", items + ["m"], "n", "~"), ("apart", [], "a", "a"), ("apart", [], "a", "b"),
                      ("apart", items + ["~"], "n", "~"), ("apart", items, "mn", "~~"),
                      ("apart", items[::-1], "m", "~")):
            self.falls(one, other, wrong)
        first = leaf_list(self.shelf, one)[0]
        for right in (["abcdefgh", "ijkl"], ["abc", "defghij", "kl"], list("abcdefghijkl"), [first, "ijkl"]):
            self.assertTrue(self.judged(one, other, ("apart", right, "m", "~")))

    def test_fewer_signs_than_they_have_in_common(self):
        one, other = built(self.shelf, "aaaaaaaaaaaab"), built(self.shelf, "aaaaaaaaaaaac")
        self.assertTrue(self.judged(one, other, ("apart", ["aaaaaaaa", "aaaa"], "b", "c")))
        for items in ([], ["a"], ["aaaaaaaa", "aaa"], ["aaaaaaaa"]):
            self.falls(one, other, ("apart", items, "b", "c"))
            self.falls(one, other, ("apart", items, "a", "a"))

    def test_alike_ones_are_never_apart(self):
        chance = random.Random(12)
        for turn in range(15):
            plain = drawn_plain(chance, chance.randrange(30), "ab")
            one, other = [made_otherwise(self.shelf, chance, plain) for two in "ab"]
            for signs in range(len(plain) + 1):
                items = plain_items(plain[:signs], 5)
                for sign in ("", "a", "b"):
                    for further in ("", "a", "b"):
                        self.falls(one, other, ("apart", items, sign, further))
                        self.falls(one, one, ("apart", items, sign, further))

    def test_apart_ones_are_never_alike(self):
        one, other = built(self.shelf, "abcdefghijklm"), built(self.shelf, "abcdefghijkln")
        for items in ([one], [other], leaf_list(self.shelf, one), leaf_list(self.shelf, other), [],
                      ["abcdefgh", "ijklm"], ["abcdefgh", "ijkln"], ["abcdefgh", "ijkl"]):
            self.falls(one, other, ("alike", items))
        self.falls(0, one, ("alike", []))
        self.falls(one, 0, ("alike", []))
        self.falls(0, one, ("alike", [one]))
        self.assertTrue(self.judged(0, 0, ("alike", [])))
        self.falls(0, 0, ("apart", [], "", ""))
        self.assertTrue(self.judged(0, one, ("apart", [], "", "a")))

    def test_tuples_of_other_forms(self):
        one, other = built(self.shelf, "abc"), built(self.shelf, "abd")
        self.assertIs(self.asked(told_stands, one, one, ("alike", [one])), True)
        self.assertIs(self.asked(told_stands, one, other, ("apart", ["ab"], "c", "d")), True)
        for told in (("alike", [one], "", ""), ("apart", [one]), ("like", [one])):
            self.assertIs(self.asked(told_stands, one, one, told), False)
        for told in (("alike", ["ab"], "c", "d"), ("parted", ["ab"], "c", "d"), ("apart", ["ab"], "c")):
            self.assertIs(self.asked(told_stands, one, other, told), False)

    def test_other_items_than_those_told(self):
        chance = random.Random(13)
        for turn in range(30):
            plain = drawn_plain(chance, chance.randint(1, 40), "ab\n")
            one = made_otherwise(self.shelf, chance, plain)
            for opened in (0, 5, 8, 10):
                items = gathered(chance, drawn_row(self.shelf, chance, one, opened))
                self.assertTrue(self.judged(one, one, ("alike", items)))
            for length in range(1, 9):
                other = made_otherwise(self.shelf, chance, plain)
                self.assertTrue(self.judged(one, other, ("alike", plain_items(plain, length))))
                longer = made_otherwise(self.shelf, chance, plain + "~")
                self.assertTrue(self.judged(one, longer, ("apart", plain_items(plain, length), "", "~")))

    def test_what_is_no_item(self):
        for one, other in self.some_pairs(14):
            told = held_together(self.shelf, one, other)
            items = told[1]
            many = self.shelf.many()
            for wrong in NO_ITEMS + [many + 1, -many - 1, [one], (one,), items]:
                for place in {0, len(items) // 2, len(items)}:
                    for rest in (items[place:], items[place + 1:]):
                        self.falls(one, other, (told[0], items[:place] + [wrong] + rest) + told[2:])

    def test_no_piece_goes_ahead(self):
        for turn in range(3):
            for told in (("alike", []), ("alike", [1]), ("alike", [None, 0]), ("apart", [], "", "a"),
                         ("apart", ["a"], "a", "b"), ("apart", [10 ** 29, 0], "", "")):
                for text in (0, self.shelf.many()):
                    self.no_piece(told_stands, None, text, told)
                    self.no_piece(told_stands, text, None, told)
            times_itself(self.shelf, "12345678", turn)


class LongTest(LikesCase):
    def test_one_text(self):
        chance = random.Random(21)
        for text in long_texts(self.shelf):
            one, other = self.shelf.piece(text)[1:]
            for items in ([text], [one, other], [one] + list(self.shelf.piece(other)[1:])):
                self.assertTrue(self.judged(text, text, ("alike", items)))
                self.falls(text, text, ("alike", items[:-1]))
                self.falls(text, text, ("alike", items + [one]))
                self.falls(text, text, ("apart", items, "", ""))
            self.falls(text, one, ("alike", [text]))
            behind = sign_by_pieces(self.shelf, other, 0)
            self.assertTrue(self.judged(text, one, ("apart", [one], behind, "")))
            self.falls(text, one, ("apart", [one], behind, behind))
            self.falls(text, one, ("apart", [one], "", behind))
            self.falls(text, one, ("apart", [one, behind], behind, ""))
            place = chance.randrange(40)
            begin = "".join(sign_by_pieces(self.shelf, text, at) for at in range(place))
            self.falls(text, text, ("apart", plain_items(begin, 7), begin[:1], "~"))

    def test_a_long_text_and_signs_behind_it(self):
        long = times_itself(self.shelf, "a\nbcdefg", 55)
        self.assertGreater(self.shelf.signs(long), MOST // 5)
        tails = [long, times_itself(self.shelf, "a\nbcdefg", 54), times_itself(self.shelf, "a\nbcdefG", 54)]
        one = self.shelf.fork(long, tails[1])
        other = self.shelf.fork(long, tails[2])
        self.assertTrue(self.judged(one, other, ("apart", [long, "a\nbcdef"], "g", "G")))
        self.assertTrue(self.judged(one, other, ("apart", [long, "a", "\nb", "cdef"], "g", "G")))
        for wrong in (("apart", [long, "a\nbcdef"], "G", "g"), ("apart", [long, "a\nbcde"], "f", "f"),
                      ("apart", ["a\nbcdef"], "g", "G"), ("apart", [long, long, "a\nbcdef"], "g", "G"),
                      ("apart", [long, "a\nbcdefg"], "a", "a"), ("alike", [long, tails[1]]), ("alike", [one])):
            self.falls(one, other, wrong)
        self.assertTrue(self.judged(one, self.shelf.fork(long, long), ("apart", [long, tails[1]], "", "a")))
        self.assertTrue(self.judged(self.shelf.fork(long, long), one, ("apart", [long, tails[1]], "a", "")))

    def test_alike_by_other_pieces(self):
        text = times_itself(self.shelf, "a\nbcdefg", 53)
        one = self.shelf.fork(self.shelf.fork(text, text), text)
        other = self.shelf.fork(text, self.shelf.fork(text, text))
        self.assertNotEqual(one, other)
        half = self.shelf.piece(text)[1]
        for items in ([text, text, text], [text, half, half, text], [text, text, half, half]):
            self.assertTrue(self.judged(one, other, ("alike", items)))
        for items in ([one], [other], [text, text], [self.shelf.fork(text, text), text], [text] * 4):
            self.falls(one, other, ("alike", items))

    def test_put_in_at_a_place(self):
        chance = random.Random(22)
        extra = built(self.shelf, "~")
        for text in (repeated(self.shelf, built(self.shelf, "some words\n"), 10 ** 16), leanest(self.shelf, 75)):
            signs = self.shelf.signs(text)
            for place in [0, 1, signs // 2, signs - 1, signs] + [chance.randrange(signs) for turn in range(2)]:
                more = put_in(self.shelf, text, place, extra)
                items = common_items(self.shelf, [text], [more])
                self.assertEqual(items_signs(self.shelf, items), place)
                sign = sign_by_pieces(self.shelf, text, place) if place < signs else ""
                self.assertTrue(self.judged(text, more, ("apart", items, sign, "~")))
                for wrong in (("apart", items, "~", sign), ("apart", items + ["~"], sign, "~"), ("alike", items),
                              ("apart", ["~"] + items, sign, "~"), ("apart", items, "", ""), ("alike", [text])):
                    self.falls(text, more, wrong)

    def test_put_in_and_taken_out_again(self):
        chance = random.Random(23)
        extra = built(self.shelf, "put in and out\n")
        for text in (repeated(self.shelf, built(self.shelf, "some words\n"), 10 ** 16), leanest(self.shelf, 75)):
            for turn in range(4):
                place = chance.randrange(self.shelf.signs(text))
                same = taken_out(self.shelf, put_in(self.shelf, text, place, extra), place, place + 15)
                items = common_items(self.shelf, [text], [same])
                self.assertTrue(self.judged(text, same, ("alike", items)))
                self.falls(text, same, ("alike", items[1:]))
                self.falls(text, same, ("alike", items[:-1]))
                self.falls(text, same, ("apart", items, "", ""))


if __name__ == "__main__":
    unittest.main()
