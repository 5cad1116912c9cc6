"""Cutting: texts cut in two, put into one another, and stretches taken out or kept."""

from skeinwood.joining import check_length, joined
from skeinwood.ways import check_gap, check_stretch


def cut_at(shelf, text, at):
    """The text's signs ahead of this place, and those from there on, each as a text."""
    check_gap(shelf, text, at)
    return (front_of(shelf, text, at), back_of(shelf, text, at))


def put_in(shelf, text, at, other):
    """The text with another one put in at this place."""
    # Asked ahead of the place, since a number that is no text's goes ahead of all else.
    together = shelf.signs(text) + shelf.signs(other)
    check_gap(shelf, text, at)
    check_length(together)
    front = joined(shelf, front_of(shelf, text, at), other)
    return joined(shelf, front, back_of(shelf, text, at))


def taken_out(shelf, text, begin, end):
    """The text without the stretch from begin to end."""
    check_stretch(shelf, text, begin, end)
    return joined(shelf, front_of(shelf, text, begin), back_of(shelf, text, end))


def kept_part(shelf, text, begin, end):
    """The stretch from begin to end alone, as a text."""
    check_stretch(shelf, text, begin, end)
    return back_of(shelf, front_of(shelf, text, end), begin)


def front_of(shelf, text, at):
    """A text of the signs ahead of this place, which is found good; never higher than the text."""
    if at == 0:
        return 0
    if at == shelf.signs(text):
        return text
    piece = shelf.piece(text)
    if piece[0] == "leaf":
        return shelf.leaf(piece[1][:at])
    ahead = shelf.signs(piece[1])
    if at <= ahead:
        return front_of(shelf, piece[1], at)
    return joined(shelf, piece[1], front_of(shelf, piece[2], at - ahead))


def back_of(shelf, text, at):
    """A text of the signs from this place on, which is found good; never higher than the text."""
    if at == 0:
        return text
    if at == shelf.signs(text):
        return 0
    piece = shelf.piece(text)
    if piece[0] == "leaf":
        return shelf.leaf(piece[1][at:])
    ahead = shelf.signs(piece[1])
    if at >= ahead:
        return back_of(shelf, piece[2], at - ahead)
    return joined(shelf, back_of(shelf, piece[1], at), piece[2])
