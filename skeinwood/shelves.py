"""The shelf: the pieces of all texts, each kept once and never changed."""

from skeinwood.errors import Loose, NoPiece, NoText, TooLong, Unlevel
from skeinwood.signs import LEAF_SIGNS, ends_in, is_short, is_whole

# Written out, since a file's top holds plain values alone: 10 ** 18.
MOST_SIGNS = 1000000000000000000


class Shelf:
    """Pieces by their numbers, from 1 on. A text is a piece's number, or 0, the text without signs."""

    def __init__(self):
        self.pieces = []
        self.numbers = {}
        # A piece's measures are kept, not reckoned anew: a text can have far too many leaves to be walked.
        # The first entry of each list is that of 0, so a text's number is its place.
        self.sign_counts = [0]
        self.end_counts = [0]
        self.leaf_counts = [0]
        self.heights = [-1]
        self.first_leaves = [0]
        self.last_leaves = [0]

    def leaf(self, plain):
        """The number of the leaf with this text, laid on the shelf where it is new."""
        if not is_short(plain):
            raise NoText("a leaf is a plain text of one to eight signs")
        made = ("leaf", plain)
        if made not in self.numbers:
            self.lay_leaf(made)
        return self.numbers[made]

    def fork(self, one, other):
        """The number of the fork with these parts, laid on the shelf where it is new."""
        self.check_fork(one, other)
        made = ("fork", one, other)
        if made not in self.numbers:
            self.lay_fork(made)
        return self.numbers[made]

    def many(self):
        """How many pieces the shelf has."""
        return len(self.pieces)

    def piece(self, number):
        """The piece with this number: ("leaf", text) or ("fork", one, other)."""
        self.check_piece(number)
        return self.pieces[number - 1]

    def signs(self, text):
        """How many signs the text reads as."""
        self.check_text(text)
        return self.sign_counts[text]

    def ends(self, text):
        """How many line feeds the text reads as."""
        self.check_text(text)
        return self.end_counts[text]

    def leaves(self, text):
        """How many leaves the text has from left to right, the same piece as often as it comes."""
        self.check_text(text)
        return self.leaf_counts[text]

    def height(self, text):
        """How many forks stand above the text's deepest leaf, -1 for 0."""
        self.check_text(text)
        return self.heights[text]

    def first_leaf(self, text):
        """The leaf with which the text begins, 0 for 0."""
        self.check_text(text)
        return self.first_leaves[text]

    def last_leaf(self, text):
        """The leaf with which the text ends, 0 for 0."""
        self.check_text(text)
        return self.last_leaves[text]

    def has_piece(self, number):
        """Whether a piece has this number; 0 is none."""
        return is_whole(number) and 1 <= number <= len(self.pieces)

    def check_piece(self, number):
        """Refuse what is no piece's number."""
        if not self.has_piece(number):
            raise NoPiece("no piece of the shelf has this number")

    def check_text(self, text):
        """Refuse what is neither 0 nor a piece's number."""
        if text != 0:
            self.check_piece(text)

    def check_fork(self, one, other):
        """Refuse parts that make no fork of this shelf, in the order that the document asks."""
        self.check_piece(one)
        self.check_piece(other)
        seam = self.sign_counts[self.last_leaves[one]] + self.sign_counts[self.first_leaves[other]]
        if seam <= LEAF_SIGNS:
            raise Loose("the leaves where the parts meet have no more than eight signs together")
        if abs(self.heights[one] - self.heights[other]) > 1:
            raise Unlevel("the heights of the parts differ by more than one")
        if self.sign_counts[one] + self.sign_counts[other] > MOST_SIGNS:
            raise TooLong("the fork would have more than 10 ** 18 signs")

    def lay_leaf(self, made):
        """Put a new leaf, found good, on the shelf."""
        number = self.lay(made)
        plain = made[1]
        self.sign_counts.append(len(plain))
        self.end_counts.append(ends_in(plain))
        self.leaf_counts.append(1)
        self.heights.append(0)
        self.first_leaves.append(number)
        self.last_leaves.append(number)

    def lay_fork(self, made):
        """Put a new fork, found good, on the shelf."""
        self.lay(made)
        one = made[1]
        other = made[2]
        self.sign_counts.append(self.sign_counts[one] + self.sign_counts[other])
        self.end_counts.append(self.end_counts[one] + self.end_counts[other])
        self.leaf_counts.append(self.leaf_counts[one] + self.leaf_counts[other])
        self.heights.append(max(self.heights[one], self.heights[other]) + 1)
        self.first_leaves.append(self.first_leaves[one])
        self.last_leaves.append(self.last_leaves[other])

    def lay(self, made):
        """Give a new piece the next number; its measures are the caller's to add."""
        self.pieces.append(made)
        number = len(self.pieces)
        self.numbers[made] = number
        return number
