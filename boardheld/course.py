"""The course of a probe: all that was done to it, and the way back and forth along that."""

from boardheld.changing import CHANGES, TELLINGS
from boardheld.errors import NoTurn

# So many units at most are done again for a way back: a probe is kept each time that so many were done.
KEPT_EACH = 500


class Course:
    """What was done to a probe, unit by unit, of which at are done now; the others may be done again.

    A unit is a tuple: ("turn", addresses), a turn with the words peeked ahead of it; ("peeks", addresses),
    words peeked ahead of a turn that wasn't come to; or the head of a row that did something else, and what
    stands in it. turn_units has, by the turns that count, the numbers of their units; kept has rows of a
    number of units and the probe as it stood when so many were done.
    """

    def __init__(self, probe):
        self.probe = probe
        self.units = []
        self.at = 0
        self.turn_units = []
        self.kept = [(0, probe.twin())]
        probe.course = self

    def note_gone(self, addresses, whole):
        """Notes words that were peeked, and the turn behind them where one went by."""
        if whole:
            self.note("turn", tuple(addresses))
        elif addresses:
            self.note("peeks", tuple(addresses))

    def note(self, head, things):
        """Notes a unit that was done just now."""
        self.cut()
        if self.probe.turns_gone > len(self.turn_units):
            self.turn_units.append(self.at)
        self.units.append((head, things))
        self.at += 1
        if self.at - self.kept[-1][0] >= KEPT_EACH:
            self.kept.append((self.at, self.probe.twin()))

    def cut(self):
        """What was gone back over can't be done again any more."""
        del self.units[self.at:]
        while self.turn_units and self.turn_units[-1] >= self.at:
            del self.turn_units[-1]
        while self.kept[-1][0] > self.at:
            del self.kept[-1]

    def back(self, many):
        """Goes back over so many turns."""
        left = self.probe.turns_gone - many
        if left < 0:
            raise NoTurn("not so many turns went by")
        if many > 0:
            self.stand_at(self.turn_units[left])

    def forth(self, many):
        """Does again so many of the turns gone back over, and all up to the turn behind them."""
        gone = self.probe.turns_gone + many
        if gone > len(self.turn_units):
            raise NoTurn("not so many turns were gone back over")
        if gone < len(self.turn_units):
            self.stand_at(self.turn_units[gone])
        else:
            self.stand_at(len(self.units))

    def stand_at(self, at):
        """Makes the probe stand as it stood when so many units were done."""
        first, probe = [row for row in self.kept if row[0] <= at][-1]
        if self.at < first or self.at > at:
            self.probe = probe.twin()
            self.at = first
            self.probe.course = self
        while self.at < at:
            self.redo(self.units[self.at])
            self.at += 1

    def redo(self, unit):
        """Does a unit again."""
        head, things = unit
        if head in ("turn", "peeks"):
            for address in things:
                self.probe.peek(address)
            if head == "turn":
                self.probe.follow_turn()
        elif head in CHANGES:
            change = CHANGES[head]
            change(self.probe, things)
        else:
            tell = TELLINGS[head]
            tell(self.probe, things)
