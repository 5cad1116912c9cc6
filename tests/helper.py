"""What the tests have in common: texts of many kinds, and what the pieces themselves tell of them."""

import copy
import unittest

from skeinwood.cutting import kept_part, put_in, taken_out
from skeinwood.errors import NoPiece
from skeinwood.heights import leanest
from skeinwood.joining import built, joined, repeated
from skeinwood.shelves import Shelf

MOST = 10 ** 18
ASKS = ["signs", "ends", "leaves", "height", "first_leaf", "last_leaf"]
# Neither plain texts nor, where a plain text of any length is asked, anything else that is one.
NOT_PLAIN = [
    "\t", "a\tb", "x" * 20000 + "\t", "\r", "\u00e9", "\x7f",
    0, 1, -1, True, False, None, [], ["a"], (), ("a",), ("leaf", "a"), {}, {"a": "b"},
]
# Nothing of these is an item of a spelling, whatever pieces the shelf has.
NO_ITEMS = [
    0, -1, -2, 10 ** 29, -(10 ** 29), True, False, None, "", "123456789", "a" * 9, "a" * 30, "\t", "a\tb", "\r",
    "\u00e9", [], ["a"], [1], (), (1,), ("leaf", "a"), {}, {1: "a"},
]


def fork_row(shelf, leaf, leaves):
    """A level text of so many times the same leaf of eight signs."""
    made = {1: leaf}

    def half(many):
        if many not in made:
            made[many] = shelf.fork(half(many // 2), half(many - many // 2))
        return made[many]
    return half(leaves)


def spread(shelf, signs, small_first=False):
    """A level text of so many signs; the leaf with less than eight, if any, is its last one, or its first."""
    full = shelf.leaf("abcdefg\n")
    rest = signs % 8
    small = shelf.leaf("abcdefg"[:rest]) if rest else full

    def half(many):
        if many == 1:
            return small
        if small_first:
            return shelf.fork(half(many - many // 2), fork_row(shelf, full, many // 2))
        return shelf.fork(fork_row(shelf, full, many // 2), half(many - many // 2))
    return half((signs + 7) // 8)


def reads(shelf, text):
    """What the text reads as, by its pieces alone."""
    if text == 0:
        return ""
    piece = shelf.piece(text)
    if piece[0] == "leaf":
        return piece[1]
    return reads(shelf, piece[1]) + reads(shelf, piece[2])


def leaf_list(shelf, text):
    if text == 0:
        return []
    piece = shelf.piece(text)
    return [text] if piece[0] == "leaf" else leaf_list(shelf, piece[1]) + leaf_list(shelf, piece[2])


def tallness(shelf, text):
    if text == 0:
        return -1
    piece = shelf.piece(text)
    return 0 if piece[0] == "leaf" else 1 + max(tallness(shelf, piece[1]), tallness(shelf, piece[2]))


def pieces_of(shelf):
    return [shelf.piece(number) for number in range(1, shelf.many() + 1)]


def way_by_pieces(shelf, text, place):
    """The way to a place of the text, and the sign there, by its pieces alone."""
    way = [text]
    while shelf.piece(way[-1])[0] == "fork":
        one, other = shelf.piece(way[-1])[1:]
        ahead = shelf.signs(one)
        way.append(one if place < ahead else other)
        place -= 0 if place < ahead else ahead
    return way, shelf.piece(way[-1])[1][place]


def sign_by_pieces(shelf, text, place):
    return way_by_pieces(shelf, text, place)[1]


def part_by_pieces(shelf, text, begin, end):
    return "".join(sign_by_pieces(shelf, text, place) for place in range(begin, end))


def times_itself(shelf, plain, turns):
    """A leaf of five to eight signs forked with itself, and that with itself, and so on."""
    text = shelf.leaf(plain)
    for turn in range(turns):
        text = shelf.fork(text, text)
    return text


def long_texts(shelf):
    yield spread(shelf, MOST)
    yield spread(shelf, MOST - 7, small_first=True)
    yield times_itself(shelf, "a\nbcdefg", 56)
    yield times_itself(shelf, "\n5678", 50)
    yield leanest(shelf, 82)
    yield leanest(shelf, 57)
    yield repeated(shelf, built(shelf, "some words\n"), MOST // 11)


def drawn_plain(chance, signs, letters="ab\n ~\\"):
    return "".join(chance.choice(letters) for sign in range(signs))


def drawn_text(shelf, chance, plain):
    """A text that reads so, of leaves drawn short and long, forked as drawn."""
    leaves = []
    while plain:
        least = 9 - shelf.signs(leaves[-1]) if leaves else 1
        length = chance.randint(least, 8)
        if length > len(plain) and leaves and len(plain) < least:
            return None
        leaves.append(shelf.leaf(plain[:length]))
        plain = plain[length:]
    return drawn_forks(shelf, chance, leaves)


def drawn_forks(shelf, chance, leaves):
    while len(leaves) > 1:
        places = range(len(leaves) - 1)
        low = min(max(shelf.height(leaves[place]), shelf.height(leaves[place + 1])) for place in places)
        fit = [place for place in places
               if abs(shelf.height(leaves[place]) - shelf.height(leaves[place + 1])) <= 1
               and max(shelf.height(leaves[place]), shelf.height(leaves[place + 1])) <= low + 1]
        if not fit:
            return None
        place = chance.choice(fit)
        leaves[place:place + 2] = [shelf.fork(leaves[place], leaves[place + 1])]
    return leaves[0] if leaves else 0


def some_text(shelf, chance, plain):
    """As drawn_text, drawn anew until the leaves and forks go together."""
    while True:
        text = drawn_text(shelf, chance, plain)
        if text is not None:
            return text


def by_chunks(shelf, chance, plain, most=30):
    """A text that reads so, joined of stretches drawn short and long, behind one another or ahead."""
    text = 0
    begin = end = chance.randrange(len(plain) + 1)
    while begin > 0 or end < len(plain):
        if chance.randrange(2):
            further = min(end + chance.randint(1, most), len(plain))
            text = joined(shelf, text, built(shelf, plain[end:further]))
            end = further
        else:
            further = max(begin - chance.randint(1, most), 0)
            text = joined(shelf, built(shelf, plain[further:begin]), text)
            begin = further
    return text


def made_otherwise(shelf, chance, plain):
    """A text that reads so, made in a way that is drawn."""
    way = chance.randrange(5)
    if way == 0:
        return built(shelf, plain)
    if way == 1:
        return by_chunks(shelf, chance, plain)
    if way == 2 and len(plain) < 60:
        return some_text(shelf, chance, plain)
    extra = drawn_plain(chance, chance.randint(1, 20))
    at = chance.randrange(len(plain) + 1)
    if way == 3:
        more = put_in(shelf, built(shelf, plain), at, built(shelf, extra))
        return taken_out(shelf, more, at, at + len(extra))
    more = by_chunks(shelf, chance, extra + plain + extra)
    return kept_part(shelf, more, len(extra), len(extra) + len(plain))


def tokens(items):
    """The list in which the plain items are put as their single signs."""
    found = []
    for item in items:
        found += list(item) if isinstance(item, str) else [item]
    return found


def are_items(shelf, items):
    """Whether each is a piece's number or a plain text of one to eight signs."""
    for item in items:
        if type(item) is int and 1 <= item <= shelf.many():
            continue
        if type(item) is str and 1 <= len(item) <= 8 and all(sign == "\n" or " " <= sign <= "~" for sign in item):
            continue
        return False
    return True


def spelled_ends(shelf, text, row, begin):
    """Each end up to which the row's numbers and single signs from begin on spell the text, by the document's rules."""
    if text == 0:
        return {begin}
    found = {begin + 1} if row[begin:begin + 1] == [text] else set()
    piece = shelf.piece(text)
    if piece[0] == "fork":
        return found.union(*[spelled_ends(shelf, piece[2], row, end)
                             for end in spelled_ends(shelf, piece[1], row, begin)])
    end = begin + len(piece[1])
    return found | {end} if row[begin:end] == list(piece[1]) else found


def begun_by(shelf, text, row, begin):
    """Whether further numbers and signs behind the row would make it, from begin on, spell the text."""
    rest = row[begin:]
    if rest == [] or text == 0:
        return rest == []
    piece = shelf.piece(text)
    if piece[0] == "leaf":
        return rest == [text] or rest == list(piece[1])[:len(rest)]
    if rest == [text] or begun_by(shelf, piece[1], row, begin):
        return True
    return any(begun_by(shelf, piece[2], row, end) for end in spelled_ends(shelf, piece[1], row, begin))


def spelled(shelf, text, items):
    """Whether the items spell the text, by the document's rules."""
    row = tokens(items) if are_items(shelf, items) else None
    return row is not None and len(row) in spelled_ends(shelf, text, row, 0)


def begun(shelf, text, items):
    """Whether the items begin the text, by the document's rules."""
    return are_items(shelf, items) and begun_by(shelf, text, tokens(items), 0)


def drawn_row(shelf, chance, text, opened):
    """Numbers and single signs that spell the text; of ten forks so many are opened, and so are leaves."""
    if text == 0:
        return []
    if chance.randrange(10) >= opened:
        return [text]
    piece = shelf.piece(text)
    if piece[0] == "leaf":
        return list(piece[1])
    return drawn_row(shelf, chance, piece[1], opened) + drawn_row(shelf, chance, piece[2], opened)


def gathered(chance, row, most=8):
    """The same as items: signs that stand side by side put together as drawn, so many at most."""
    items = []
    room = 0
    for token in row:
        if isinstance(token, int):
            items.append(token)
            room = 0
        elif room > 0:
            items[-1] += token
            room -= 1
        else:
            items.append(token)
            room = chance.randrange(most)
    return items


def plain_items(plain, length):
    return [plain[begin:begin + length] for begin in range(0, len(plain), length)]


def lists_in(thing):
    """The thing, if it is a list, and all lists within it."""
    if not isinstance(thing, (list, tuple)):
        return []
    found = [thing] if isinstance(thing, list) else []
    for part in thing:
        found += lists_in(part)
    return found


class ShelfCase(unittest.TestCase):
    def setUp(self):
        self.shelf = Shelf()
        self.known = (self.shelf, [])

    def tearDown(self):
        self.know()

    def know(self):
        """Keep in mind which pieces lie on the shelf, and hold those known already against it."""
        shelf, elder = self.known
        pieces = pieces_of(shelf)
        self.assertEqual(pieces[:len(elder)], elder)
        self.known = (self.shelf, pieces_of(self.shelf))

    def sound(self):
        """All pieces of the shelf are unlike, level and close, and not too long, as they themselves tell."""
        self.know()
        pieces = pieces_of(self.shelf)
        self.assertEqual(len(set(pieces)), len(pieces))
        measures = [None]
        for number, piece in enumerate(pieces, start=1):
            if piece[0] == "leaf":
                length = len(piece[1])
                self.assertTrue(1 <= length <= 8)
                measures.append((0, length, length, length, 1, piece[1].count("\n")))
            else:
                one, other = measures[piece[1]], measures[piece[2]]
                self.assertLessEqual(abs(one[0] - other[0]), 1)
                self.assertGreater(one[3] + other[2], 8)
                height = max(one[0], other[0]) + 1
                signs, leaves, ends = one[1] + other[1], one[4] + other[4], one[5] + other[5]
                measures.append((height, signs, one[2], other[3], leaves, ends))
            height, signs, first, last, leaves, ends = measures[-1]
            self.assertLessEqual(signs, MOST)
            self.assertEqual(self.told(number)[:4], [signs, ends, leaves, height])

    def asked(self, ask, *things):
        """What is told, twice the same; nothing that is handed in is changed, and no piece is put there."""
        many = self.shelf.many()
        kept = copy.deepcopy(things)
        told = ask(self.shelf, *things)
        again = ask(self.shelf, *things)
        self.assertEqual(again, told)
        self.assertEqual(things, kept)
        self.assertEqual(self.shelf.many(), many)
        own = lists_in(told)
        self.assertEqual(len({id(row) for row in own}), len(own))
        elder = {id(row) for row in lists_in(again) + lists_in(things)}
        self.assertFalse(any(id(row) in elder for row in own))
        return told

    def done(self, most, deed, *things):
        """What is told by a deed of so many new pieces at most; done again it tells the same, and puts none there."""
        ahead = self.shelf.many()
        if self.known[0] is not self.shelf or 2 * len(self.known[1]) < ahead:
            self.know()
        told = deed(self.shelf, *things)
        many = self.shelf.many()
        if most is not None:
            self.assertLessEqual(many - ahead, most)
        self.assertEqual(deed(self.shelf, *things), told)
        self.assertEqual(self.shelf.many(), many)
        return told

    def no_piece(self, ask, *things):
        """NoPiece, ahead of all else, for each number that is neither 0 nor a piece's; None stands for it in things."""
        many = self.shelf.many()
        for wrong in (-1, -2, -many, -many - 1, many + 1, many + 2, 10 ** 29, -(10 ** 29)):
            if wrong != 0:
                given = [wrong if thing is None else thing for thing in things]
                self.refused(NoPiece, ask, self.shelf, *given)

    def refused(self, error, deed, *things):
        """The deed is refused with just this class, and leaves the shelf as it was."""
        ahead = pieces_of(self.shelf)
        with self.assertRaises(error) as taken:
            deed(*things)
        self.assertIs(type(taken.exception), error)
        self.assertEqual(pieces_of(self.shelf), ahead)
        self.assertEqual(self.shelf.many(), len(ahead))

    def told(self, text):
        return [getattr(self.shelf, ask)(text) for ask in ASKS]
