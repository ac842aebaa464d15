"""All refusals: each stands right under BoardError, none under another one."""


class BoardError(ValueError):
    """The base of all refusals."""


class NoImage(BoardError):
    """What was handed in is no image, or no line."""


class NoText(BoardError):
    """A text can't be read; at is the number, from 0, of its row."""

    def __init__(self, at):
        self.at = at


class NoWord(BoardError):
    """A word, an address, a number or a name is none."""


class Barred(BoardError):
    """A word can't be put there; why is "far", "flash" or "still"."""

    def __init__(self, why):
        self.why = why


class Taken(BoardError):
    """A mark stands there already."""


class TooMany(BoardError):
    """There is no room for one more."""


class NoMark(BoardError):
    """No mark, or no watch, stands there."""


class NoFrame(BoardError):
    """No frame is open."""


class Marked(BoardError):
    """A soft mark stands in the way, at this address."""

    def __init__(self, address):
        self.address = address


class Unerased(BoardError):
    """A bit would have to become 1 without erasing, at this address."""

    def __init__(self, address):
        self.address = address


class NoRow(BoardError):
    """What was said to a desk is no row."""


class NoTurn(BoardError):
    """There are not so many turns to go back or forth over."""


class NoLetter(BoardError):
    """A text is no letter."""


class Waiting(BoardError):
    """The answer to the letter before is still to come."""
