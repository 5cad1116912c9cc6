"""Writing: plain texts in one row and numbers in figures, and what is written so read again."""

from skeinwood.signs import is_plain_sign

MOST_FIGURES = 30
# The sign behind a backslash, and what both stand for.
MARKED = {"n": "\n", "\\": "\\"}


def written(plain):
    """The plain text in one row: each line feed and each backslash written as two signs."""
    return plain.replace("\\", "\\\\").replace("\n", "\\n")


def read_plain(row):
    """The plain text that is written so, None where none is."""
    found = []
    marked = False
    for sign in row:
        if marked:
            read = MARKED.get(sign)
            marked = False
        elif sign == "\\":
            read = ""
            marked = True
        else:
            read = sign if sign != "\n" and is_plain_sign(sign) else None
        if read is None:
            return None
        found.append(read)
    return None if marked else "".join(found)


def read_number(word):
    """The whole number that is written so, None where none is."""
    if not 1 <= len(word) <= MOST_FIGURES:
        return None
    if not all(["0" <= figure <= "9" for figure in word]):
        return None
    if word != "0" and word.startswith("0"):
        return None
    return int(word)
