"""Heights: how few leaves and signs a text of a height can have, and a text with just so few."""

from skeinwood.errors import TooLong
from skeinwood.shelves import MOST_SIGNS

# One sign, and the eight that make a leaf beside it close: in turn they have the fewest signs.
SMALL_LEAF = "a"
FULL_LEAF = "bbbbbbbb"


def least_leaves(height):
    """How many leaves a text of this height has at least."""
    if height < 0:
        return 0
    leaves = 1
    higher = 2
    for step in range(height):
        both = leaves + higher
        leaves = higher
        higher = both
    return leaves


def least_signs(height):
    """How many signs a text of this height has at least."""
    leaves = least_leaves(height)
    # Two leaves side by side have nine signs at least, one by itself has one.
    return 9 * (leaves // 2) + leaves % 2


def most_height(signs):
    """The greatest height that a text of so many signs can have."""
    height = -1
    while least_signs(height + 1) <= signs:
        height = height + 1
    return height


def leanest(shelf, height):
    """A text of this height with its least leaves and its least signs."""
    if height < 0:
        return 0
    if least_signs(height) > MOST_SIGNS:
        raise TooLong("a text of this height has more than 10 ** 18 signs")
    return lean_text(shelf, height, True, {})


def lean_text(shelf, height, small_first, made):
    """A text with its height's least leaves, small and full ones in turn; made keeps those that are there already."""
    if height == 0:
        return shelf.leaf(SMALL_LEAF if small_first else FULL_LEAF)
    wanted = (height, small_first)
    if wanted not in made:
        one = lean_text(shelf, height - 1, small_first, made)
        in_pairs = shelf.leaves(one) % 2 == 0
        # Behind leaves in pairs the turn begins anew, behind an odd one it is the other leaf's.
        other = lean_text(shelf, max(height - 2, 0), small_first == in_pairs, made)
        made[wanted] = shelf.fork(one, other)
    return made[wanted]
