"""Ways: from a text through its parts to the leaf in which a place lies."""

from skeinwood.errors import NoPlace


def way_to(shelf, text, place):
    """The pieces from the text's own number to the leaf in which the place lies."""
    check_place(shelf, text, place)
    return [step[0] for step in steps_to(shelf, text, place)]


def way_stands(shelf, text, place, way, sign):
    """Whether the place is one of the text, way the way to it, and sign the sign there."""
    if not has_place(shelf, text, place):
        return False
    steps = steps_to(shelf, text, place)
    return way == [step[0] for step in steps] and sign == sign_of(shelf, steps[-1])


def has_place(shelf, text, place):
    """Whether the place is one of the text."""
    # Asked first, since a number that is no text's goes ahead of a place below 0.
    signs = shelf.signs(text)
    return 0 <= place < signs


def check_place(shelf, text, place):
    """Refuse a place that is none of the text."""
    if not has_place(shelf, text, place):
        raise NoPlace("the text has no such place")


def check_gap(shelf, text, at):
    """Refuse a number that is neither a place of the text nor its end."""
    signs = shelf.signs(text)
    if not 0 <= at <= signs:
        raise NoPlace("the text has no such place, and does not end there")


def check_stretch(shelf, text, begin, end):
    """Refuse a begin and an end between which the text has no stretch."""
    signs = shelf.signs(text)
    if not 0 <= begin <= end <= signs:
        raise NoPlace("the text has no such stretch")


def steps_to(shelf, text, place):
    """The way to a place, or to the end, of a text with signs: each piece with the place counted from its begin."""
    step = (text, place)
    steps = [step]
    while shelf.height(step[0]) > 0:
        step = part_with(shelf, step[0], step[1])
        steps.append(step)
    return steps


def part_with(shelf, fork, place):
    """The part of the fork in which the place lies, and the place counted from that part's begin."""
    piece = shelf.piece(fork)
    ahead = shelf.signs(piece[1])
    if place < ahead:
        return (piece[1], place)
    return (piece[2], place - ahead)


def sign_of(shelf, step):
    """The sign at which a way's last step stands, a leaf and a place in it."""
    return shelf.piece(step[0])[1][step[1]]
