"""Points 2, 4, 5, 10, 130 and 131: a desk, which is told rows and answers them."""

import random
import unittest

from skeinwood.desk import Desk
from skeinwood.errors import NoLine, NoName, NoPlace, NoText, NothingDone, SkeinError, TooLong
from skeinwood.house import House
from tests.helper import MOST, drawn_plain, reads

DEEDS = {"new": "give", "copy": "copy_of", "join": "join_to", "put": "put_into", "take": "take_from", "drop": "drop",
         "times": "repeat", "back": "back", "again": "again"}
NO_NAMES = ["", "A", "a1", "1", "a-b", "abcdefghi", "a" * 30, "a\n", "a\t", "\t", "\u00e9", "{", "`", "a\\n", "-", "Ab"]
NO_NUMBERS = ["", "a", "-1", "+1", "-0", "00", "01", "007", "1.", "1.0", "1e0", "0x1", "1_0", "\u0661", "\u00b2", "1\n",
              "1\t", "9" * 31, "1" + "0" * 30, "0" * 31, "1" * 5000, "one", "\\1", "1,", "True"]
NO_TEXTS = ["\t", "a\tb", "\n", "a\n", "\na", "\\", "a\\", "\\a", "\\t", "\\N", "\\ ", "\\\\\\", "\\n\\", "\\\\\\a",
            "\u00e9", "\x7f", "\r", "a" * 10001 + "\t", "a" * 15000 + "\\"]
# A row of each kind that has words behind the first one: all names in it are a, all numbers 0, the text is x.
PATTERNS = ["new NAME TEXT", "copy NAME NAME", "join NAME NAME", "put NAME NUMBER NAME", "take NAME NUMBER NUMBER",
            "drop NAME", "times NAME NUMBER", "signs NAME", "rows NAME", "height NAME", "read NAME NUMBER NUMBER",
            "row NAME NUMBER", "count NAME TEXT", "alike NAME NAME"]
ALONE = ["back", "again", "names", "pieces"]
GOOD = {"NAME": "a", "NUMBER": "0", "TEXT": "x"}


def written(plain):
    return "".join({"\n": "\\n", "\\": "\\\\"}.get(sign, sign) for sign in plain)


def filled(pattern, places, word):
    """The pattern's row with this word at these places, and good ones at all others."""
    words = pattern.split(" ")
    return " ".join(word if place in places else GOOD.get(kind, kind) for place, kind in enumerate(words))


class DeskCase(unittest.TestCase):
    def setUp(self):
        self.desk = Desk()

    def said(self, row, wish):
        told = self.desk.say(row)
        self.assertEqual((told, type(told)), (wish, str))

    def rows(self, *rows):
        for row in rows:
            self.said(row, "ok")

    def state(self):
        """All that the desk tells of its names and its shelf."""
        names = self.desk.say("names")
        found = [names, self.desk.say("pieces")]
        for name in names.split(" ") if names != "-" else []:
            signs = self.desk.say("signs " + name)
            found += [signs, self.desk.say("rows " + name), self.desk.say("height " + name)]
            found.append(self.desk.say("read " + name + " 0 " + str(min(int(signs), 10000))))
        return found

    def refused(self, error, row):
        """The row is refused with just this class, twice, and all stays as it was."""
        ahead = self.state()
        for turn in range(2):
            with self.assertRaises(SkeinError) as taken:
                self.desk.say(row)
            self.assertIs(type(taken.exception), error, row[:60])
        self.assertEqual(self.state(), ahead)


class DeedsTest(DeskCase):
    def test_each_deed(self):
        self.said("new a Skein, wood.", "ok")
        self.said("read a 0 12", "Skein, wood.")
        self.said("copy b a", "ok")
        self.said("read b 0 12", "Skein, wood.")
        self.said("join a b", "ok")
        self.said("read a 0 24", "Skein, wood.Skein, wood.")
        self.said("put b 5 b", "ok")
        self.said("read b 0 24", "SkeinSkein, wood., wood.")
        self.said("take b 5 22", "ok")
        self.said("read b 0 7", "Skeind.")
        self.said("times b 3", "ok")
        self.said("read b 0 21", "Skeind.Skeind.Skeind.")
        self.said("drop b", "ok")
        self.said("names", "a")
        for names in ("a b", "a b", "a b"):
            self.said("back", "ok")
            self.said("names", names)
        self.said("read b 0 24", "SkeinSkein, wood., wood.")
        self.said("again", "ok")
        self.said("signs b", "7")
        self.said("again", "ok")
        self.said("again", "ok")
        self.said("names", "a")
        self.refused(NothingDone, "again")

    def test_texts_as_they_are_written(self):
        for plain in ("", " ", "  ", "\n", "\\", "\\n", "\\\n", "\n\\", " a", "a ", " \n ", "a b  c", "\\\\",
                      "\\\\n\n", "~!\"'", "new a b", "ok", "-", "0", "\n" * 30, "\\" * 30, "n"):
            self.said("new a " + written(plain), "ok")
            self.said("signs a", str(len(plain)))
            self.said("rows a", str(plain.count("\n") + 1))
            self.said("read a 0 " + str(len(plain)), written(plain))
            for row, wish in enumerate(plain.split("\n")):
                self.said("row a " + str(row), written(wish))

    def test_every_sign(self):
        plain = "".join(map(chr, list(range(32, 127)) + [10]))
        self.said("new a " + written(plain), "ok")
        self.said("read a 0 96", written(plain))
        for place, sign in enumerate(plain):
            self.said("read a {} {}".format(place, place + 1), written(sign))

    def test_a_text_without_signs_behind_its_blank(self):
        self.said("new a ", "ok")
        self.said("signs a", "0")
        self.said("rows a", "1")
        self.said("height a", "-1")
        self.said("read a 0 0", "")
        self.said("row a 0", "")
        self.said("pieces", "0")
        self.refused(NoLine, "new a")
        self.refused(NoLine, "new")
        self.refused(NoLine, "new ")
        self.refused(NoText, "count a ")
        self.refused(NoName, "count b ")
        self.refused(NoLine, "count a")

    def test_ten_thousand_signs_and_one_more(self):
        for sign in ("a", " ", "\n", "\\", "n"):
            self.said("new a " + written(sign) * 10000, "ok")
            self.said("signs a", "10000")
            self.said("read a 0 10000", written(sign) * 10000)
            self.refused(TooLong, "new a " + written(sign) * 10001)
            self.refused(TooLong, "new b " + written(sign) * 10001)
        self.refused(TooLong, "new b " + "a" * 20000)
        self.refused(NoLine, "new b " + "a" * 20000 + "\\")

    def test_copies_and_joins_of_itself(self):
        self.rows("new a some words", "copy a a", "join a a", "put a 10 a", "copy abcdefgh a")
        self.said("read abcdefgh 0 40", "some wordssome wordssome wordssome words")
        self.said("alike a abcdefgh", "yes")

    def test_deeds_that_leave_all_as_it_was(self):
        self.rows("new a some words", "new b ", "copy a a", "join a b", "put a 3 b", "take a 4 4", "times a 1")
        for turn in range(5):
            self.said("back", "ok")
            self.said("names", "a b")
        self.said("back", "ok")
        self.said("names", "a")
        self.said("back", "ok")
        self.said("names", "-")
        self.refused(NothingDone, "back")

    def test_a_new_row_behind_a_taking_back(self):
        self.rows("new a one", "new a two", "back")
        for row in ("new A x", "new a \\", "new a " + "a" * 10001, "copy a b", "put a 4 a", "take a 0 4", "drop b",
                    "signs b", "read a 0 4", "row a 1", "count a 123456789", "nothing", "", "times a " + str(MOST)):
            with self.assertRaises(SkeinError):
                self.desk.say(row)
        for row in ("names", "signs a", "rows a", "height a", "read a 0 3", "row a 0", "count a o", "alike a a"):
            self.desk.say(row)
        self.said("again", "ok")
        self.said("read a 0 3", "two")
        self.rows("back", "new b three")
        self.refused(NothingDone, "again")
        self.said("read a 0 3", "one")

    def test_desks_beside_each_other(self):
        other = Desk()
        self.rows("new a one", "new b two")
        self.assertEqual((other.say("names"), other.say("pieces")), ("-", "0"))
        other.say("new c three")
        self.said("names", "a b")


class AsksTest(DeskCase):
    def test_names(self):
        self.said("names", "-")
        self.rows("new b x", "new abcdefgh x", "new zz x", "new a x", "new z ")
        self.said("names", "a abcdefgh b z zz")
        self.rows("drop a", "drop b", "drop z", "drop zz")
        self.said("names", "abcdefgh")
        self.rows("drop abcdefgh")
        self.said("names", "-")

    def test_signs_rows_height_and_pieces(self):
        self.said("pieces", "0")
        self.rows("new a ", "new b 12345678", "new c 12345678abcdefgh\\n\\n")
        self.said("height a", "-1")
        self.said("height b", "0")
        self.said("signs c", "18")
        self.said("rows c", "3")
        house = House()
        house.give("b", "12345678")
        house.give("c", "12345678abcdefgh\n\n")
        self.said("height c", str(house.shelf().height(house.text("c"))))
        self.said("pieces", str(house.shelf().many()))
        self.rows("drop b", "drop c")
        self.said("pieces", str(house.shelf().many()))

    def test_reading(self):
        self.rows("new a one\\ntwo \\\\ three\\n")
        self.said("read a 0 16", "one\\ntwo \\\\ three\\n")
        self.said("read a 3 4", "\\n")
        self.said("read a 8 9", "\\\\")
        self.said("read a 5 5", "")
        self.said("row a 0", "one")
        self.said("row a 1", "two \\\\ three")
        self.said("row a 2", "")

    def test_count(self):
        self.rows("new a aaaa\\na\\\\n a b  ", "new b ")
        for word, count in (("a", 6), ("aa", 3), ("aaaa", 1), ("\\n", 1), ("\\\\n", 1), ("\\\\", 1), (" ", 4),
                            ("  ", 1), (" a b  ", 1), ("a\\na", 1), ("x", 0), ("a a", 0), ("12345678", 0),
                            ("\\n" * 8, 0)):
            self.said("count a " + word, str(count))
            self.said("count b " + word, "0")
        for word in ("", "123456789", "a" * 9, "\\n" * 9, "\\\\" * 9, "a" * 20000, "a  a  a  a"):
            self.refused(NoText, "count a " + word)
            self.refused(NoText, "count b " + word)
            self.refused(NoName, "count c " + word)

    def test_alike(self):
        self.rows("new a some words", "new b some words", "new c some word", "new d Some words", "new e ",
                  "new f some w", "new g ords", "join f g")
        for one, other, wish in (("a", "b", "yes"), ("a", "a", "yes"), ("e", "e", "yes"), ("a", "f", "yes"),
                                 ("f", "a", "yes"), ("a", "c", "no 9"), ("c", "a", "no 9"), ("a", "d", "no 0"),
                                 ("a", "e", "no 0"),
                                 ("e", "a", "no 0"), ("f", "c", "no 9"), ("g", "f", "no 0"), ("f", "d", "no 0")):
            self.said("alike {} {}".format(one, other), wish)

    def test_alike_of_long_texts(self):
        self.rows("new a x", "copy b a", "times a 10001", "times b 10000", "copy c a", "new d y", "copy e b",
                  "join e d")
        self.said("alike a c", "yes")
        self.said("alike b b", "yes")
        self.said("alike b d", "no 0")
        for row in ("alike a b", "alike b a", "alike a d", "alike e a", "alike e b"):
            self.refused(TooLong, row)
        self.refused(NoName, "alike a q")
        self.refused(NoName, "alike q a")


class LongTest(DeskCase):
    def test_very_long_texts(self):
        self.rows("new a some words\\n", "times a " + str(MOST // 11), "copy b a", "take b 4 10", "new c x")
        self.said("signs a", str(MOST // 11 * 11))
        self.said("rows a", str(MOST // 11 + 1))
        self.said("count a words\\nso", str(MOST // 11 - 1))
        for place in (0, 899999999999999998, 899999999999999999, MOST // 2):
            wish = written(("some words\n" * 3)[place % 11:place % 11 + 14])
            self.said("read a {} {}".format(place, place + 14), wish)
        self.said("row a 12345678901234567", "some words")
        self.said("row a " + str(MOST // 11), "")
        self.said("read b 0 16", "some\\nsome words\\n")
        self.assertTrue(40 < int(self.desk.say("height a")) <= 82)
        self.refused(TooLong, "join a b")
        self.refused(TooLong, "times a 2")
        self.refused(TooLong, "put a 0 a")
        self.refused(TooLong, "read a 0 10001")
        self.refused(NoPlace, "read a 0 " + str(MOST))
        self.refused(NoPlace, "row a " + str(MOST))
        self.rows("times c " + str(MOST))
        self.refused(TooLong, "row c 0")
        self.rows("times c 0", "back", "back")
        self.said("signs c", "1")

    def test_numbers_of_thirty_figures(self):
        most = "9" * 30
        self.rows("new a some words", "new b ")
        for row in ("put a {} a", "take a {} {}", "take a 0 {}", "read a {} {}", "read a 0 {}", "row a {}"):
            self.refused(NoPlace, row.replace("{}", most))
            self.refused(NoPlace, row.replace("{}", "1" + "0" * 29))
            self.refused(NoLine, row.replace("{}", most + "9"))
            self.refused(NoLine, row.replace("{}", "0" * 30))
        self.refused(TooLong, "times a " + most)
        self.refused(NoLine, "times a 1" + "0" * 30)
        self.said("times b " + most, "ok")
        self.refused(NoLine, "times b " + most + "9")


class RefusedTest(DeskCase):
    def setUp(self):
        super().setUp()
        self.rows("new a some words\\nand others", "new z y", "back")

    def tearDown(self):
        # No refused row is a deed, so what was taken back can still be done again.
        self.said("again", "ok")
        self.said("names", "a z")

    def test_other_first_words(self):
        for row in ("", " ", "  ", "\n", "\t", "nothing", "New a x", "NEW a x", "news a x", "ne a x", "name", "namess",
                    "a", "leaf a", "fork 1 2", "give a x", "undo", "redo", "names\n", "names\t", "\nnames", " names",
                    "names ", "back\n", "back ", " back", "again ", " pieces", "pieces ", "pieces\n", "ok", "-",
                    "new\ta x",
                    "new\na x", "signs\ta", "help", "quit", "copy_of a a", "join_to a a"):
            self.refused(NoLine, row)

    def test_too_many_words(self):
        for row in ALONE:
            for more in (" ", "  ", " a", " 0", " back", "\t", "\n", " \n"):
                self.refused(NoLine, row + more)
        for pattern in PATTERNS:
            if not pattern.endswith("TEXT"):
                for more in (" ", "  ", " a", " 0", " x", "\t", "\n"):
                    self.refused(NoLine, filled(pattern, [], "") + more)

    def test_too_few_words(self):
        for pattern in PATTERNS:
            words = filled(pattern, [], "").split(" ")
            for end in range(1, len(words)):
                self.refused(NoLine, " ".join(words[:end]))
                if end < len(words) - 1 or not pattern.endswith("TEXT"):
                    self.refused(NoLine, " ".join(words[:end]) + " ")

    def test_two_blanks_and_blanks_ahead(self):
        for pattern in PATTERNS:
            row = filled(pattern, [], "")
            self.refused(NoLine, " " + row)
            words = row.split(" ")
            for place in range(1, len(words)):
                if pattern.split(" ")[place] != "TEXT":
                    self.refused(NoLine, " ".join(words[:place]) + "  " + " ".join(words[place:]))

    def test_words_of_another_kind(self):
        for pattern in PATTERNS:
            kinds = pattern.split(" ")
            for place, kind in enumerate(kinds):
                wrong = {"NAME": NO_NAMES + ["0"], "NUMBER": NO_NUMBERS, "TEXT": NO_TEXTS}.get(kind, [])
                for word in wrong:
                    self.refused(NoLine, filled(pattern, [place], word))

    def test_no_line_goes_ahead_of_no_name(self):
        for pattern in PATTERNS:
            kinds = pattern.split(" ")
            for place, kind in enumerate(kinds):
                wrong = {"NAME": NO_NAMES, "NUMBER": NO_NUMBERS, "TEXT": NO_TEXTS}.get(kind, [])
                for word in wrong[:8]:
                    row = filled(pattern, [place], word).split(" ")
                    others = [at for at, other in enumerate(kinds) if other == "NAME" and at != place]
                    for at in others:
                        self.refused(NoLine, " ".join(row[:at] + ["nobody"] + row[at + 1:]))
            if not pattern.endswith("TEXT"):
                self.refused(NoLine, filled(pattern, [1], "nobody") + " a")

    def test_no_name(self):
        for pattern in PATTERNS:
            kinds = pattern.split(" ")
            names = [place for place, kind in enumerate(kinds) if kind == "NAME"]
            free = 1 if kinds[0] in ("new", "copy") else 0
            for place in names[free:]:
                self.refused(NoName, filled(pattern, [place], "nobody"))
                self.refused(NoName, filled(pattern, [place], "z"))
            if names[free:]:
                self.refused(NoName, filled(pattern, names, "nobody"))

    def test_no_name_goes_ahead_of_the_others(self):
        for row in ("put nobody 99 a", "put a 99 nobody", "take nobody 2 1", "times nobody " + str(MOST),
                    "read nobody 2 1", "row nobody 99", "count nobody 123456789", "count nobody ", "alike a nobody",
                    "copy a nobody",
                    "copy nobody nobody", "join nobody a", "join a nobody", "read nobody 0 99999"):
            self.refused(NoName, row)

    def test_no_place_and_others(self):
        for row in ("put a 22 a", "put a 999 a", "take a 1 0", "take a 0 22", "take a 22 22", "read a 1 0",
                    "read a 0 22", "read a 22 22", "row a 2", "row a 99"):
            self.refused(NoPlace, row)
        self.refused(TooLong, "times a " + str(MOST))
        self.refused(TooLong, "new b " + "a" * 10001)
        self.refused(NoText, "count a ")

    def test_nothing_done(self):
        self.said("again", "ok")
        self.refused(NothingDone, "again")
        self.rows("back", "back")
        self.refused(NothingDone, "back")
        self.refused(NothingDone, "back")
        self.rows("again")


class DrawnTest(DeskCase):
    """Rows as drawn, against a house that is told the same deeds, and against plain texts."""

    def setUp(self):
        super().setUp()
        self.beside = House()

    def plain(self, name):
        return reads(self.beside.shelf(), self.beside.text(name))

    def drawn_row(self, chance):
        names = self.beside.names()
        name = chance.choice(names * 8 + ["a", "b", "abc", "zz"])
        other = chance.choice(names * 8 + ["a", "b", "abc", "zz"])
        signs = len(self.plain(name)) if name in names else 5
        begin, end = sorted([chance.randint(0, signs), chance.randint(0, signs + (chance.randrange(9) == 0))])
        plain = drawn_plain(chance, chance.choice([0, 1, 4, 9, 30, 60]))
        many = chance.choice([0, 1, 1, 2, 3, MOST + 1] if signs < 200 else [0, 1, 1, MOST + 1])
        return chance.choice([
            ("new", name, plain), ("new", chance.choice(["a", "b", "abc", "zz"]), plain), ("copy", name, other),
            ("join", name, other), ("put", name, end, other), ("put", name, begin, other), ("take", name, begin, end),
            ("take", name, end, begin), ("times", name, many), ("drop", name), ("back",), ("again",), ("names",),
            ("signs", name), ("rows", name), ("height", name), ("read", name, begin, end),
            ("row", name, chance.randrange(4)), ("count", name, plain[:4]), ("alike", name, other), ("pieces",),
        ])

    def answer(self, row):
        """What is to be answered, or the class of the refusal."""
        try:
            if row[0] in DEEDS:
                getattr(self.beside, DEEDS[row[0]])(*row[1:])
                return "ok"
            return self.ask(*row)
        except SkeinError as error:
            return type(error)

    def ask(self, kind, name="", *things):
        shelf = self.beside.shelf()
        if kind in ("names", "pieces"):
            return (" ".join(self.beside.names()) or "-") if kind == "names" else str(shelf.many())
        plain = self.plain(name)
        if kind in ("signs", "rows", "height"):
            height = shelf.height(self.beside.text(name))
            return str({"signs": len(plain), "rows": plain.count("\n") + 1, "height": height}[kind])
        if kind == "alike":
            other = self.plain(things[0])
            parts = [at for at in range(min(len(plain), len(other))) if plain[at] != other[at]]
            return "yes" if plain == other else "no " + str((parts + [min(len(plain), len(other))])[0])
        if kind == "count":
            word = things[0]
            return str(sum(plain.startswith(word, at) for at in range(len(plain)))) if word else NoText
        if kind == "row":
            rows = plain.split("\n")
            return written(rows[things[0]]) if things[0] < len(rows) else NoPlace
        begin, end = things
        return written(plain[begin:end]) if begin <= end <= len(plain) else NoPlace

    def row_said(self, row):
        wish = self.answer(row)
        words = [str(word) if isinstance(word, int) else word for word in row]
        if row[0] in ("new", "count"):
            words[-1] = written(words[-1])
        line = " ".join(words)
        if isinstance(wish, type):
            self.refused(wish, line)
        else:
            self.said(line, wish)
        return wish

    def test_rows_as_drawn(self):
        answers = set()
        for seed in range(6):
            self.setUp()
            chance = random.Random(seed)
            for name in ("a", "b", "zz"):
                self.row_said(("new", name, drawn_plain(chance, 20)))
            for turn in range(400):
                row = self.drawn_row(chance)
                answers.add((row[0], isinstance(self.row_said(row), str)))
                if max([len(self.plain(name)) for name in self.beside.names()], default=0) > 1500:
                    self.row_said(("back",))
            while self.answer(("back",)) == "ok":
                self.said("back", "ok")
                self.said("names", self.ask("names"))
            self.refused(NothingDone, "back")
        for kind in list(DEEDS) + ["names", "signs", "rows", "height", "read", "row", "count", "alike", "pieces"]:
            self.assertIn((kind, True), answers)


if __name__ == "__main__":
    unittest.main()
