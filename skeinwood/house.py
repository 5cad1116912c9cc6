"""The house: texts by names, and deeds that are taken back and done again."""

from skeinwood.cutting import put_in, taken_out
from skeinwood.errors import NoName, NothingDone
from skeinwood.joining import built, joined, repeated
from skeinwood.shelves import Shelf
from skeinwood.signs import is_name


class House:
    """A shelf and texts on it by names. Each deed gives one name another text, or drops it."""

    def __init__(self):
        self.own_shelf = Shelf()
        self.texts = {}
        # A deed is kept as its name and the text of this name ahead of it and behind it, None where there is none.
        # Texts never change, so nothing else is needed to take it back.
        self.deeds = []
        self.taken_back = []

    def shelf(self):
        """The shelf itself on which the texts lie."""
        return self.own_shelf

    def names(self):
        """The names that are there, sorted."""
        return sorted(self.texts)

    def text(self, name):
        """The text of this name."""
        if not is_name(name) or name not in self.texts:
            raise NoName("this name is not there")
        return self.texts[name]

    def give(self, name, plain):
        """Give the name a plain text."""
        check_name(name)
        self.do(name, built(self.own_shelf, plain))

    def copy_of(self, name, other):
        """Give the name another name's text."""
        check_name(name)
        self.do(name, self.text(other))

    def join_to(self, name, other):
        """Give the name its own text with another name's behind it."""
        self.do(name, joined(self.own_shelf, self.text(name), self.text(other)))

    def put_into(self, name, at, other):
        """Give the name its own text with another name's put in."""
        self.do(name, put_in(self.own_shelf, self.text(name), at, self.text(other)))

    def take_from(self, name, begin, end):
        """Give the name its own text with a stretch taken out."""
        self.do(name, taken_out(self.own_shelf, self.text(name), begin, end))

    def repeat(self, name, many):
        """Give the name its own text repeated."""
        self.do(name, repeated(self.own_shelf, self.text(name), many))

    def drop(self, name):
        """Drop the name."""
        self.text(name)
        self.do(name, None)

    def back(self):
        """Take the last deed back."""
        if self.deeds == []:
            raise NothingDone("there is no deed to take back")
        deed = self.deeds.pop()
        self.taken_back.append(deed)
        self.set_text(deed[0], deed[1])

    def again(self):
        """Do the deed that was taken back last again."""
        if self.taken_back == []:
            raise NothingDone("there is no deed to do again")
        deed = self.taken_back.pop()
        self.deeds.append(deed)
        self.set_text(deed[0], deed[2])

    def do(self, name, text):
        """Do a new deed, found good; behind it nothing that was taken back can be done again."""
        self.deeds.append((name, self.texts.get(name), text))
        self.taken_back.clear()
        self.set_text(name, text)

    def set_text(self, name, text):
        """Let the name have this text, or be gone where it is None."""
        if text is None:
            self.texts.pop(name)
        else:
            self.texts[name] = text


def check_name(name):
    """Refuse what is no name."""
    if not is_name(name):
        raise NoName("a name has one to eight small letters")
