"""Stands of a board that are kept, and gone back to."""

from boardheld.board import Board
from boardheld.errors import NoWord, TooMany
from boardheld.values import is_between

STANDS_MOST = 16


class Stand:
    """How a board stood, with the frames that were open and the strays."""

    def __init__(self, board, frames):
        self.board = board.twin()
        self.frames = frames.twin()


class Stands:
    """All stands that were kept, by their numbers."""

    def __init__(self):
        self.rows = []

    def twin(self):
        """The same stands: what is kept of one never changes."""
        other = Stands()
        other.rows = list(self.rows)
        return other

    def keep(self, board, frames):
        """Keeps how a board stands, and tells the number of that."""
        if len(self.rows) >= STANDS_MOST:
            raise TooMany("no room for one more stand")
        self.rows.append(Stand(board, frames))
        return len(self.rows) - 1

    def numbered(self, number):
        """The stand that has a number, NoWord where none has it."""
        if not is_between(number, 0, len(self.rows) - 1):
            raise NoWord("no number of a stand")
        return self.rows[number]
