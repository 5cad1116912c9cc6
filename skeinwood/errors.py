"""The refusals, each an error of its own class, all of them straight under SkeinError."""


class SkeinError(ValueError):
    """Any refusal."""


class NoText(SkeinError):
    """What was handed in is no text of the form that is asked."""


class NoPiece(SkeinError):
    """No piece of the shelf has this number."""


class Loose(SkeinError):
    """The fork would not be close."""


class Unlevel(SkeinError):
    """The fork would not be level."""


class TooLong(SkeinError):
    """The text has, or would have, too many signs."""


class NoPlace(SkeinError):
    """There is no such place, row or number of times."""


class NoName(SkeinError):
    """This is no name, or none that is there."""


class NothingDone(SkeinError):
    """There is no deed to take back or to do again."""


class Torn(SkeinError):
    """The text is no written shelf; row is the number of its first wrong row."""

    def __init__(self, row):
        self.row = row


class NoLine(SkeinError):
    """The desk knows no such row."""
