"""Whole numbers, plain texts and names, told from all other things."""

LEAF_SIGNS = 8
NAME_SIGNS = 8
# The most signs of a plain text of which a text is built, or as which one is told.
MOST_PLAIN = 10000


def is_whole(thing):
    """Whether thing is a whole number."""
    return isinstance(thing, int) and not isinstance(thing, bool)


def is_plain(thing):
    """Whether thing is a plain text, perhaps without signs."""
    if not isinstance(thing, str):
        return False
    return all([is_plain_sign(sign) for sign in thing])


def is_plain_sign(sign):
    """Whether this one sign may stand in a plain text."""
    return sign == "\n" or " " <= sign <= "~"


def is_short(thing):
    """Whether thing is a plain text that a leaf can hold."""
    return is_plain(thing) and 1 <= len(thing) <= LEAF_SIGNS


def is_name(thing):
    """Whether thing is a name."""
    if not isinstance(thing, str):
        return False
    return 1 <= len(thing) <= NAME_SIGNS and all(["a" <= letter <= "z" for letter in thing])


def ends_in(plain):
    """How many line feeds the text has."""
    return plain.count("\n")
