"""Sweeping: what texts reach, and a new shelf with just that."""

from skeinwood.shelves import Shelf


def reach_of(shelf, texts):
    """The pieces of these texts, their parts, the parts of these, and so on, rising."""
    # Each piece is opened once, however often it comes: a text can have far too many leaves to be walked.
    reached = {}
    ahead = [text for text in texts if text != 0]
    while ahead != []:
        number = ahead.pop()
        if number not in reached:
            reached[number] = True
            ahead.extend(parts_of(shelf, number))
    return sorted(reached)


def parts_of(shelf, number):
    """The parts of a fork; none of a leaf."""
    piece = shelf.piece(number)
    if piece[0] == "leaf":
        return []
    return [piece[1], piece[2]]


def swept(shelf, texts):
    """A new shelf with just the pieces that the texts reach, and the numbers of the texts there."""
    new = Shelf()
    renamed = {0: 0}
    # Rising, so that the parts of a fork are there ahead of it.
    for number in reach_of(shelf, texts):
        piece = shelf.piece(number)
        if piece[0] == "leaf":
            renamed[number] = new.leaf(piece[1])
        else:
            renamed[number] = new.fork(renamed[piece[1]], renamed[piece[2]])
    return (new, [renamed[text] for text in texts])


def shared(shelf, one, other):
    """The pieces that both texts reach, rising."""
    reached = reach_of(shelf, [one])
    other_reached = reach_of(shelf, [other])
    return sorted(set(reached) & set(other_reached))
