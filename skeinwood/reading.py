"""Reading: the sign at a place, a stretch, the whole text."""

from skeinwood.errors import TooLong
from skeinwood.signs import MOST_PLAIN
from skeinwood.ways import check_place, check_stretch, sign_of, steps_to


def sign_at(shelf, text, place):
    """The sign at the place."""
    check_place(shelf, text, place)
    return sign_of(shelf, steps_to(shelf, text, place)[-1])


def stretch_of(shelf, text, begin, end):
    """The signs at the places from begin to end less one."""
    check_stretch(shelf, text, begin, end)
    if end - begin > MOST_PLAIN:
        raise TooLong("a stretch of more than ten thousand signs is not told")
    return signs_between(shelf, text, begin, end)


def whole_text(shelf, text):
    """All the text's signs."""
    return stretch_of(shelf, text, 0, shelf.signs(text))


def signs_between(shelf, text, begin, end):
    """A stretch, read leaf by leaf; parts that lie outside it are passed over, however long they are."""
    found = []
    ahead = [(text, 0)]
    while ahead != []:
        step = ahead.pop()
        number = step[0]
        start = step[1]
        if start >= end or start + shelf.signs(number) <= begin:
            continue
        piece = shelf.piece(number)
        if piece[0] == "leaf":
            found.append(piece[1][max(begin - start, 0):end - start])
        else:
            ahead.append((piece[2], start + shelf.signs(piece[1])))
            ahead.append((piece[1], start))
    return "".join(found)
