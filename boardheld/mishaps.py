"""The faults that wait to come to a board, and those that came."""

from boardheld.errors import NoWord, TooMany
from boardheld.memory import RAM_END, WORD_MOST
from boardheld.values import is_between

BEAT_MOST = 1000000
BIT_MOST = 15
WAITING_MOST = 16


def is_fault(thing):
    """Whether a thing of any kind is a fault."""
    if not isinstance(thing, tuple) or len(thing) < 2 or not is_between(thing[1], 1, BEAT_MOST):
        return False
    sort = thing[0]
    if not isinstance(sort, str):
        return False
    if sort == "bit":
        return len(thing) == 4 and is_between(thing[2], 0, RAM_END - 1) and is_between(thing[3], 0, BIT_MOST)
    if sort == "read":
        return len(thing) == 3 and is_between(thing[2], 1, WORD_MOST)
    return sort == "power" and len(thing) == 2


class Mishaps:
    """The faults that wait, in the order in which they come, and those that came, with their beats."""

    def __init__(self):
        self.rows = []
        self.met_rows = []

    def twin(self):
        """The same faults, that come and go by themselves."""
        other = Mishaps()
        other.rows = list(self.rows)
        other.met_rows = list(self.met_rows)
        return other

    def lay(self, fault, beat):
        """Lays a fault up on a board that has come to a beat."""
        if not is_fault(fault) or fault[1] <= beat or fault in self.rows:
            raise NoWord("no fault, one too late, or one that waits already")
        if len(self.rows) >= WAITING_MOST:
            raise TooMany("no room for one more fault")
        at = len([row for row in self.rows if row[1] <= fault[1]])
        self.rows.insert(at, fault)

    def bending(self, beat):
        """The fault that may bend a word read in a turn that begins at a beat, None where there is none."""
        for row in self.rows:
            if row[0] == "read" and row[1] <= beat:
                return row
        return None

    def due(self, beat):
        """The other faults that come behind a turn, or a peek, at whose end it is this beat."""
        return [row for row in self.rows if row[0] != "read" and row[1] <= beat]

    def come(self, fault, beat):
        """Notes that a fault came."""
        self.rows.remove(fault)
        self.met_rows.append((beat, fault))
