"""Joining: texts put one behind the other, built of a plain text, and repeated."""

from skeinwood.errors import NoPlace, NoText, TooLong
from skeinwood.shelves import MOST_SIGNS
from skeinwood.signs import LEAF_SIGNS, MOST_PLAIN, is_plain


def joined(shelf, one, other):
    """A text that reads as one, the other behind it."""
    check_length(shelf.signs(one) + shelf.signs(other))
    if one == 0:
        return other
    if other == 0:
        return one
    if are_close(shelf, one, other):
        return linked(shelf, one, other)
    return welded(shelf, one, other)


def built(shelf, plain):
    """A text that reads as the plain text."""
    if not is_plain(plain):
        raise NoText("a text is built of a plain text")
    if len(plain) > MOST_PLAIN:
        raise TooLong("a text is built of ten thousand signs at most")
    if plain == "":
        return 0
    # Full leaves but for the last one: so any two side by side are close.
    leaves = [shelf.leaf(plain[begin:begin + LEAF_SIGNS]) for begin in range(0, len(plain), LEAF_SIGNS)]
    return halved(shelf, leaves)


def repeated(shelf, text, many):
    """A text that reads as this one so many times, one behind the other."""
    signs = shelf.signs(text)
    if many < 0:
        raise NoPlace("a text is repeated 0 times at least")
    check_length(signs * many)
    if text == 0:
        return 0
    return doubled(shelf, text, many)


def check_length(signs):
    """Refuse more signs than a text may have."""
    if signs > MOST_SIGNS:
        raise TooLong("the text would have more than 10 ** 18 signs")


def are_close(shelf, one, other):
    """Whether the leaves where the texts meet have more signs than go into one leaf."""
    return shelf.signs(shelf.last_leaf(one)) + shelf.signs(shelf.first_leaf(other)) > LEAF_SIGNS


def linked(shelf, one, other):
    """Two texts that are close, joined, whatever their heights; at most one higher than the higher of them."""
    tilt = shelf.height(one) - shelf.height(other)
    if tilt > 1:
        piece = shelf.piece(one)
        return turned_left(shelf, piece[1], linked(shelf, piece[2], other))
    if tilt < -1:
        piece = shelf.piece(other)
        return turned_right(shelf, linked(shelf, one, piece[1]), piece[2])
    return shelf.fork(one, other)


def turned_left(shelf, one, other):
    """The fork of both, turned where the other is higher by two and it would not be level."""
    if shelf.height(other) - shelf.height(one) < 2:
        return shelf.fork(one, other)
    piece = shelf.piece(other)
    near = piece[1]
    far = piece[2]
    if shelf.height(near) <= shelf.height(far):
        return shelf.fork(shelf.fork(one, near), far)
    inner = shelf.piece(near)
    return shelf.fork(shelf.fork(one, inner[1]), shelf.fork(inner[2], far))


def turned_right(shelf, one, other):
    """The fork of both, turned where the first is higher by two and it would not be level."""
    if shelf.height(one) - shelf.height(other) < 2:
        return shelf.fork(one, other)
    piece = shelf.piece(one)
    far = piece[1]
    near = piece[2]
    if shelf.height(near) <= shelf.height(far):
        return shelf.fork(far, shelf.fork(near, other))
    inner = shelf.piece(near)
    return shelf.fork(shelf.fork(far, inner[1]), shelf.fork(inner[2], other))


def welded(shelf, one, other):
    """Two texts that are not close, joined: the leaves where they meet become one leaf."""
    seam = shelf.piece(shelf.last_leaf(one))[1] + shelf.piece(shelf.first_leaf(other))[1]
    front = with_last(shelf, one, shelf.leaf(seam))
    back = without_first(shelf, other)
    # The new leaf is longer than both were, so it is close to their neighbours too.
    if back == 0:
        return front
    return linked(shelf, front, back)


def with_last(shelf, text, leaf):
    """The text with this leaf in the place of its last one."""
    piece = shelf.piece(text)
    if piece[0] == "leaf":
        return leaf
    return shelf.fork(piece[1], with_last(shelf, piece[2], leaf))


def without_first(shelf, text):
    """The text without its first leaf; at most one lower."""
    piece = shelf.piece(text)
    if piece[0] == "leaf":
        return 0
    rest = without_first(shelf, piece[1])
    if rest == 0:
        return piece[2]
    return turned_left(shelf, rest, piece[2])


def halved(shelf, leaves):
    """A text of these leaves, each fork with as many of them on both sides, or one more behind."""
    if len(leaves) == 1:
        return leaves[0]
    middle = len(leaves) // 2
    return shelf.fork(halved(shelf, leaves[:middle]), halved(shelf, leaves[middle:]))


def doubled(shelf, text, many):
    """The text so many times; through its half, so that even very many take few steps."""
    if many == 0:
        return 0
    half = doubled(shelf, text, many // 2)
    twice = joined(shelf, half, half)
    if many % 2 == 0:
        return twice
    return joined(shelf, twice, text)
