"""A program held under a probe, and stepped by its rows."""

from boardheld.errors import NoFrame, NoWord
from boardheld.probe import Probe


class RowEnd:
    """When a row begins, at one of the addresses of places, with no more than so many frames open.

    frames_most is None where it may be with any number of frames.
    """

    def __init__(self, probe, places, frames_most):
        self.probe = probe
        self.places = places
        self.frames_most = frames_most

    def comes(self, sort, ahead, now):
        """Whether a turn, with so many frames ahead of it and now, is the end."""
        if self.frames_most is not None and now > self.frames_most:
            return False
        return self.probe.board.registers["pc"] in self.places


class Rowwise:
    """A program under a probe, made of its image and a line."""

    def __init__(self, program, line):
        self.probe = Probe(program.image(), line)
        self.row_places = program.rows_at()
        self.var_places = program.vars_at()

    def probe_of(self):
        """The probe by which it is held."""
        return self.probe

    def row_now(self):
        """The number of the row that begins at pc, None where none does."""
        return self.row_places.get(self.probe.board.registers["pc"])

    def worth(self, name):
        """The word of a var."""
        return self.probe.look(self.place_of(name), 1)[0]

    def worths(self):
        """The words of all vars."""
        return {name: self.worth(name) for name in self.var_places}

    def give(self, name, word):
        """Gives a var a word."""
        self.probe.poke(self.place_of(name), word)

    def into(self, most):
        """Lets turns go by till a row begins."""
        return self.let_go(most, self.row_places, None)

    def over(self, most):
        """Lets turns go by till a row begins with no more frames open than now."""
        return self.let_go(most, self.row_places, len(self.probe.frames.rows))

    def out_of(self, most):
        """Lets turns go by till a row begins with fewer frames open than now."""
        depth = len(self.probe.frames.rows)
        if depth == 0:
            raise NoFrame("no frame is open")
        return self.let_go(most, self.row_places, depth - 1)

    def to_row(self, number, most):
        """Lets turns go by till the row of a number begins."""
        places = {place: True for place in self.row_places if self.row_places[place] == number}
        if places == {} or isinstance(number, bool):
            raise NoWord("no row that sets, sends, asks or does")
        return self.let_go(most, places, None)

    def place_of(self, name):
        """The address of a var."""
        if not isinstance(name, str) or name not in self.var_places:
            raise NoWord("no var")
        return self.var_places[name]

    def let_go(self, most, places, frames_most):
        """Lets turns go by till a row begins at one of these places."""
        return self.probe.let_go(most, {}, [], RowEnd(self.probe, places, frames_most))
