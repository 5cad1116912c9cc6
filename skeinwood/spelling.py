"""Spellings: lists of pieces' numbers and short plain texts that make up a text."""

from skeinwood.signs import is_short, is_whole


def spells(shelf, text, items):
    """Whether the items spell the text."""
    return left_behind(shelf, text, items) == []


def begins_text(shelf, text, items):
    """Whether the items, and perhaps further ones behind them, spell the text."""
    return left_behind(shelf, text, items) is not None


def items_signs(shelf, items):
    """How many signs the spelling has."""
    return sum([item_signs(shelf, item) for item in items])


def item_signs(shelf, item):
    """How many signs one item of a spelling has."""
    if not is_whole(item):
        return len(item)
    shelf.check_piece(item)
    return shelf.signs(item)


def left_behind(shelf, text, items):
    """What the items leave of the text, the next thing last: pieces and signs of a begun leaf; None if they go astray.

    No piece is a part of itself, so an item can be taken in one way alone and nothing need be tried twice.
    """
    shelf.check_text(text)
    left = [] if text == 0 else [text]
    for item in items:
        if not takes_item(shelf, left, item):
            return None
    return left


def takes_item(shelf, left, item):
    """Take the item away from the begin of what is left; False where it doesn't stand there, or is no item."""
    if shelf.has_piece(item):
        return takes_piece(shelf, left, item)
    return is_short(item) and takes_plain(shelf, left, item)


def takes_piece(shelf, left, number):
    """Take this piece away, out of the forks that begin with it."""
    while left != []:
        first = left.pop()
        if first == number:
            return True
        if not opens_fork(shelf, left, first):
            return False
    return False


def takes_plain(shelf, left, plain):
    """Take these signs away, from one leaf into the next."""
    rest = plain
    while rest != "":
        signs = next_signs(shelf, left)
        both = min(len(signs), len(rest))
        if both == 0 or signs[:both] != rest[:both]:
            return False
        if both < len(signs):
            left.append(signs[both:])
        rest = rest[both:]
    return True


def next_signs(shelf, left):
    """Take the next leaf, or what is left of a begun one, away and tell its signs; none where nothing is left."""
    while left != []:
        first = left.pop()
        if isinstance(first, str):
            return first
        if not opens_fork(shelf, left, first):
            return shelf.piece(first)[1]
    return ""


def opens_fork(shelf, left, first):
    """Put a fork's parts in its place; False where this is no fork."""
    if isinstance(first, str):
        return False
    piece = shelf.piece(first)
    if piece[0] == "leaf":
        return False
    left.append(piece[2])
    left.append(piece[1])
    return True
