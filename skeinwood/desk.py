"""The desk: a house that is told its deeds, and asked, by rows of words."""

from skeinwood.errors import NoLine
from skeinwood.finding import count_of
from skeinwood.house import House
from skeinwood.likes import held_together
from skeinwood.reading import stretch_of
from skeinwood.rows import row_text, rows_in
from skeinwood.signs import is_name
from skeinwood.spelling import items_signs
from skeinwood.writing import read_number, read_plain, written

# What is asked behind the first word of a row; a text is always the last.
FORMS = {
    "new": ("name", "text"),
    "copy": ("name", "name"),
    "join": ("name", "name"),
    "put": ("name", "number", "name"),
    "take": ("name", "number", "number"),
    "drop": ("name",),
    "times": ("name", "number"),
    "back": (),
    "again": (),
    "names": (),
    "signs": ("name",),
    "rows": ("name",),
    "height": ("name",),
    "read": ("name", "number", "number"),
    "row": ("name", "number"),
    "count": ("name", "text"),
    "alike": ("name", "name"),
    "pieces": (),
}


def do_new(house, given):
    """Give a name a plain text."""
    house.give(given[0], given[1])
    return "ok"


def do_copy(house, given):
    """Give a name another name's text."""
    house.copy_of(given[0], given[1])
    return "ok"


def do_join(house, given):
    """Put another name's text behind a name's."""
    house.join_to(given[0], given[1])
    return "ok"


def do_put(house, given):
    """Put another name's text into a name's."""
    house.put_into(given[0], given[1], given[2])
    return "ok"


def do_take(house, given):
    """Take a stretch out of a name's text."""
    house.take_from(given[0], given[1], given[2])
    return "ok"


def do_drop(house, given):
    """Drop a name."""
    house.drop(given[0])
    return "ok"


def do_times(house, given):
    """Repeat a name's text."""
    house.repeat(given[0], given[1])
    return "ok"


def do_back(house, given):
    """Take the last deed back."""
    house.back()
    return "ok"


def do_again(house, given):
    """Do what was taken back last again."""
    house.again()
    return "ok"


def tell_names(house, given):
    """The names, or a dash where there are none."""
    names = house.names()
    return "-" if names == [] else " ".join(names)


def tell_signs(house, given):
    """How many signs a name's text has."""
    return str(house.shelf().signs(house.text(given[0])))


def tell_rows(house, given):
    """How many rows a name's text has."""
    return str(rows_in(house.shelf(), house.text(given[0])))


def tell_height(house, given):
    """The height of a name's text."""
    return str(house.shelf().height(house.text(given[0])))


def tell_read(house, given):
    """A stretch of a name's text."""
    return written(stretch_of(house.shelf(), house.text(given[0]), given[1], given[2]))


def tell_row(house, given):
    """A row of a name's text."""
    return written(row_text(house.shelf(), house.text(given[0]), given[1]))


def tell_count(house, given):
    """How often a word stands in a name's text."""
    return str(count_of(house.shelf(), house.text(given[0]), given[1]))


def tell_alike(house, given):
    """Whether two names' texts are alike, or the place at which they part."""
    told = held_together(house.shelf(), house.text(given[0]), house.text(given[1]))
    if told[0] == "alike":
        return "yes"
    return "no " + str(items_signs(house.shelf(), told[1]))


def tell_pieces(house, given):
    """How many pieces the shelf has."""
    return str(house.shelf().many())


ANSWERS = {
    "new": do_new,
    "copy": do_copy,
    "join": do_join,
    "put": do_put,
    "take": do_take,
    "drop": do_drop,
    "times": do_times,
    "back": do_back,
    "again": do_again,
    "names": tell_names,
    "signs": tell_signs,
    "rows": tell_rows,
    "height": tell_height,
    "read": tell_read,
    "row": tell_row,
    "count": tell_count,
    "alike": tell_alike,
    "pieces": tell_pieces,
}


class Desk:
    """A house that is spoken to by rows."""

    def __init__(self):
        self.house = House()

    def say(self, row):
        """The answer to a row."""
        first = row.partition(" ")[0]
        given = things_in(row, first)
        return ANSWERS[first](self.house, given)


def things_in(row, first):
    """What the row tells behind its first word; a row that is none is refused."""
    if first not in FORMS:
        raise NoLine("no row begins with this word")
    form = FORMS[first]
    # So many words and no more are parted: the last one has all blanks that are left, which only a text may have.
    words = row.split(" ", len(form))
    if words[0] != first or len(words) != len(form) + 1:
        raise NoLine("the row has too few words, or too many")
    things = [thing_in(kind, word) for kind, word in zip(form, words[1:])]
    if any([thing is None for thing in things]):
        raise NoLine("a word is not written as is asked there")
    return things


def thing_in(kind, word):
    """The name, number or text that a word tells, None where it tells none."""
    if kind == "number":
        return read_number(word)
    if kind == "text":
        return read_plain(word)
    return word if is_name(word) else None
