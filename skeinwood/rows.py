"""Rows: what stands between a text's line feeds."""

from skeinwood.errors import NoPlace
from skeinwood.reading import stretch_of
from skeinwood.signs import ends_in
from skeinwood.ways import check_gap, steps_to


def rows_in(shelf, text):
    """How many rows the text has."""
    return shelf.ends(text) + 1


def row_begin(shelf, text, row):
    """The place at which the row begins."""
    check_row(shelf, text, row)
    return behind_ends(shelf, text, row)


def row_at(shelf, text, place):
    """The row and the column of a place, the text's end among them."""
    check_gap(shelf, text, place)
    row = ends_ahead(shelf, text, place)
    return (row, place - behind_ends(shelf, text, row))


def row_text(shelf, text, row):
    """The row, without line feeds."""
    check_row(shelf, text, row)
    return stretch_of(shelf, text, behind_ends(shelf, text, row), row_end(shelf, text, row))


def check_row(shelf, text, row):
    """Refuse a row that the text doesn't have."""
    many = rows_in(shelf, text)
    if not 0 <= row < many:
        raise NoPlace("the text has no such row")


def row_end(shelf, text, row):
    """The place at which the row ends: that of its line feed, or the text's end."""
    if row == shelf.ends(text):
        return shelf.signs(text)
    return behind_ends(shelf, text, row + 1) - 1


def behind_ends(shelf, text, many):
    """The place behind so many of the text's line feeds, 0 for none."""
    if many == 0:
        return 0
    number = text
    place = 0
    left = many
    while shelf.height(number) > 0:
        piece = shelf.piece(number)
        ends = shelf.ends(piece[1])
        if left <= ends:
            number = piece[1]
        else:
            number = piece[2]
            place = place + shelf.signs(piece[1])
            left = left - ends
    return place + behind_in_leaf(shelf.piece(number)[1], left)


def behind_in_leaf(plain, many):
    """The place behind so many of a leaf's line feeds."""
    place = 0
    for turn in range(many):
        place = plain.find("\n", place) + 1
    return place


def ends_ahead(shelf, text, place):
    """How many line feeds stand ahead of the place."""
    if text == 0:
        return 0
    return sum([ends_passed(shelf, step) for step in steps_to(shelf, text, place)])


def ends_passed(shelf, step):
    """How many line feeds one step of a way leaves behind: those of a fork's first part, or of a leaf's begin."""
    piece = shelf.piece(step[0])
    if piece[0] == "leaf":
        return ends_in(piece[1][:step[1]])
    if step[1] < shelf.signs(piece[1]):
        return 0
    return shelf.ends(piece[1])
