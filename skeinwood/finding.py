"""Finding: at how many places of a text a word stands, and at which."""

from skeinwood.errors import NoPlace, NoText
from skeinwood.signs import is_short


def count_of(shelf, text, word):
    """At how many places of the text the word stands; they may overlap."""
    check_word(shelf, text, word)
    return finds_in(shelf, text, word)[text][0]


def place_of(shelf, text, word, k):
    """The k-th place, rising from 0, at which the word stands."""
    check_word(shelf, text, word)
    finds = finds_in(shelf, text, word)
    if not 0 <= k < finds[text][0]:
        raise NoPlace("the word stands at fewer places")
    return place_below(shelf, text, word, k, finds)


def check_word(shelf, text, word):
    """Refuse what is no text and what is no word, in this order."""
    shelf.check_text(text)
    if not is_short(word):
        raise NoText("a word is a plain text of one to eight signs")


def finds_in(shelf, text, word):
    """What is found in the text and in each piece within it, by their numbers.

    A find is how often the word stands there, and with which signs it begins and ends, one fewer than the word has.
    Each piece is asked once, however often it comes in the text.
    """
    finds = {0: (0, "", "")}
    find_below(shelf, text, word, finds)
    return finds


def find_below(shelf, number, word, finds):
    """The find of one piece, kept in finds with those of all pieces within it."""
    if number not in finds:
        piece = shelf.piece(number)
        if piece[0] == "leaf":
            finds[number] = find_in_leaf(piece[1], word)
        else:
            one = find_below(shelf, piece[1], word, finds)
            other = find_below(shelf, piece[2], word, finds)
            finds[number] = find_in_fork(one, other, word)
    return finds[number]


def find_in_leaf(plain, word):
    """The find of a leaf."""
    edge = len(word) - 1
    return (len(places_in(plain, word)), plain[:edge], last_signs(plain, edge))


def find_in_fork(one, other, word):
    """The find of a fork, from those of its parts."""
    edge = len(word) - 1
    many = one[0] + len(places_over(one, other, word)) + other[0]
    return (many, (one[1] + other[1])[:edge], last_signs(one[2] + other[2], edge))


def places_over(one, other, word):
    """Where the word stands over the seam of two parts, counted from the begin of the signs kept ahead of it."""
    # On either side one sign fewer is kept than the word has, so it can't stand on one side alone.
    return places_in(one[2] + other[1], word)


def places_in(plain, word):
    """The places, rising, at which the word stands in a plain text."""
    return [place for place in range(len(plain) - len(word) + 1) if plain.startswith(word, place)]


def last_signs(plain, many):
    """So many of the text's last signs, or all where it has fewer."""
    return plain[max(len(plain) - many, 0):]


def place_below(shelf, number, word, k, finds):
    """The k-th place, which is there, counted from the piece's begin."""
    piece = shelf.piece(number)
    if piece[0] == "leaf":
        return places_in(piece[1], word)[k]
    one = finds[piece[1]]
    if k < one[0]:
        return place_below(shelf, piece[1], word, k, finds)
    seam = shelf.signs(piece[1])
    over = places_over(one, finds[piece[2]], word)
    left = k - one[0]
    if left < len(over):
        return seam - len(one[2]) + over[left]
    return seam + place_below(shelf, piece[2], word, left - len(over), finds)
