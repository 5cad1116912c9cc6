"""Spellings: lists of pieces' numbers and short plain texts that make up a text."""

from skeinwood.signs import is_short, is_whole


def spells(shelf, text, items):
    """Whether the items spell the text."""
    return left_behind(shelf, text, items) == []


def begins_text(shelf, text, items):
    """Whether the items, and perhaps further ones behind them, spell the text."""
    return left_behind(shelf, text, items) is not None


def items_signs(shelf, items):
    """How many signs the spelling has."""
    return sum([item_signs(shelf, item) for item in items])


def item_signs(shelf, item):
    """How many signs one item of a spelling has."""
    if not is_whole(item):
        return len(item)
    shelf.check_piece(item)
    return shelf.signs(item)


def left_behind(shelf, text, items):
    """What the items leave of the text, the next thing last: pieces and signs of a begun leaf; None if they go astray.

    No piece is a part of itself, so an item can be taken in one way alone and nothing need be tried twice.
    """
    left = whole_left(shelf, text)
    for item in items:
        if not takes_item(shelf, left, item):
            return None
    return left


def whole_left(shelf, text):
    """What is left of a text of which nothing is taken yet."""
    shelf.check_text(text)
    return [] if text == 0 else [text]


def takes_item(shelf, left, item):
    """Take the item away from the begin of what is left; False where it doesn't stand there, or is no item."""
    if shelf.has_piece(item):
        return takes_piece(shelf, left, item)
    return is_short(item) and takes_plain(shelf, left, item)


def takes_piece(shelf, left, number):
    """Take this piece away, out of the forks that begin with it."""
    while left != []:
        first = left.pop()
        if first == number:
            return True
        if not opens_fork(shelf, left, first):
            return False
    return False


def takes_plain(shelf, left, plain):
    """Take these signs away, from one leaf into the next."""
    rest = plain
    while rest != "":
        signs = next_signs(shelf, left)
        both = min(len(signs), len(rest))
        if both == 0 or signs[:both] != rest[:both]:
            return False
        puts_back(left, signs[both:])
        rest = rest[both:]
    return True


def next_signs(shelf, left):
    """Take the next leaf, or what is left of a begun one, away and tell its signs; none where nothing is left."""
    while left != []:
        first = left.pop()
        if isinstance(first, str):
            return first
        if not opens_fork(shelf, left, first):
            return shelf.piece(first)[1]
    return ""


def opens_fork(shelf, left, first):
    """Put a fork's parts in its place; False where this is no fork."""
    if isinstance(first, str):
        return False
    piece = shelf.piece(first)
    if piece[0] == "leaf":
        return False
    left.append(piece[2])
    left.append(piece[1])
    return True


def common_items(shelf, left, other_left):
    """Take items away from both, the longest that they have in common, until one has none left or they part."""
    items = []
    while left != [] and other_left != []:
        item = common_item(shelf, left, other_left)
        if item == "":
            break
        items.append(item)
    return items


def common_item(shelf, left, other_left):
    """Take the longest item with which both go on away from them; the text without signs where they part."""
    # The longer one alone is opened, so no piece that begins both is ever passed over.
    while left[-1] != other_left[-1]:
        shorter = size_of(shelf, left[-1]) < size_of(shelf, other_left[-1])
        longer = other_left if shorter else left
        first = longer.pop()
        if not opens_fork(shelf, longer, first):
            longer.append(first)
            return common_signs(shelf, left, other_left)
    other_left.pop()
    return left.pop()


def size_of(shelf, thing):
    """How many signs a piece, or what is left of a begun leaf, has."""
    if isinstance(thing, str):
        return len(thing)
    return shelf.signs(thing)


def common_signs(shelf, left, other_left):
    """Take the signs away that the next leaves of both have in common from their begin on, perhaps none."""
    one = next_signs(shelf, left)
    other = next_signs(shelf, other_left)
    many = 0
    while many < min(len(one), len(other)) and one[many] == other[many]:
        many = many + 1
    puts_back(left, one[many:])
    puts_back(other_left, other[many:])
    return one[:many]


def puts_back(left, signs):
    """Put what is left of a begun leaf back, if anything is."""
    if signs != "":
        left.append(signs)
