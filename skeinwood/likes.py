"""Likes: two texts held together, told alike or apart."""

from skeinwood.errors import TooLong
from skeinwood.signs import MOST_PLAIN
from skeinwood.spelling import common_items, left_behind, next_signs, whole_left


def held_together(shelf, one, other):
    """("alike", items), items a spelling of both; or ("apart", items, sign, other), the signs at which they part."""
    longest = max(shelf.signs(one), shelf.signs(other))
    if one != other and longest > MOST_PLAIN:
        raise TooLong("unlike texts of more than ten thousand signs are not held together")
    left = whole_left(shelf, one)
    other_left = whole_left(shelf, other)
    items = common_items(shelf, left, other_left)
    if left == [] and other_left == []:
        return ("alike", items)
    return ("apart", items, next_sign(shelf, left), next_sign(shelf, other_left))


def told_stands(shelf, one, other, told):
    """Whether this may be told of the two texts, which may be of any length."""
    left = left_behind(shelf, one, told[1])
    other_left = left_behind(shelf, other, told[1])
    if left is None or other_left is None:
        return False
    if told[0] == "alike":
        return len(told) == 2 and left == [] and other_left == []
    signs = (next_sign(shelf, left), next_sign(shelf, other_left))
    return told[0] == "apart" and told[2:] == signs and signs[0] != signs[1]


def next_sign(shelf, left):
    """The sign with which what is left of a text begins; the text without signs where nothing is left."""
    return next_signs(shelf, left)[:1]
