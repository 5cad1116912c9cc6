"""Texts of shelves: a shelf written as a text, a row for each piece, and read again."""

from skeinwood.errors import NoLine, SkeinError, Torn
from skeinwood.shelves import Shelf
from skeinwood.writing import read_number, read_plain, written

LEAF_WORD = "leaf "


def shelf_text(shelf):
    """The shelf as a text."""
    return "\n".join([piece_row(shelf.piece(number)) for number in range(1, shelf.many() + 1)])


def piece_row(piece):
    """The row that tells this piece."""
    if piece[0] == "leaf":
        return LEAF_WORD + written(piece[1])
    return "fork " + str(piece[1]) + " " + str(piece[2])


def read_shelf(plain):
    """The shelf that is written so; Torn, with the number of the first wrong row, where none is."""
    shelf = Shelf()
    if plain == "":
        return shelf
    for place, row in enumerate(plain.split("\n")):
        if not is_laid(shelf, row):
            raise Torn(place)
    return shelf


def is_laid(shelf, row):
    """Lay the piece that the row tells on the shelf; False where it tells none, or one that can't lie there."""
    many = shelf.many()
    try:
        number = piece_told(shelf, row)
    except SkeinError:
        return False
    # A piece that lies there already has the number that it had.
    return number > many


def piece_told(shelf, row):
    """The number of the piece that the row tells; what is not of the form is refused by the shelf, too."""
    words = row.split(" ")
    if row.startswith(LEAF_WORD):
        return shelf.leaf(read_plain(row[len(LEAF_WORD):]))
    if words[0] == "fork" and len(words) == 3:
        return shelf.fork(read_number(words[1]), read_number(words[2]))
    raise NoLine("a row tells a leaf or a fork")
