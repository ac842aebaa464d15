"""The two watches on the words that turns read and put."""

from boardheld.errors import NoMark, NoWord
from boardheld.memory import PLACES_END
from boardheld.values import is_between

WATCHES = 2
KINDS = ("r", "w", "rw")


class Watches:
    """The watches by their numbers: tuples (least, greatest, kind), None where none is set."""

    def __init__(self):
        self.rows = [None] * WATCHES

    def twin(self):
        """The same watches, set and ended by themselves."""
        other = Watches()
        other.rows = list(self.rows)
        return other

    def lay(self, number, low, high, kind):
        """Sets a watch."""
        self.check_number(number)
        if not is_between(high, 0, PLACES_END - 1) or not is_between(low, 0, high):
            raise NoWord("no addresses for a watch")
        if not isinstance(kind, str) or kind not in KINDS:
            raise NoWord("no kind of a watch")
        self.rows[number] = (low, high, kind)

    def lift(self, number):
        """Ends a watch."""
        self.check_number(number)
        if self.rows[number] is None:
            raise NoMark("this watch is not set")
        self.rows[number] = None

    def check_number(self, number):
        """Refuses what is no watch's number."""
        if not is_between(number, 0, WATCHES - 1):
            raise NoWord("no number of a watch")

    def met(self, touches):
        """The cause of the watch that a turn's words meet first, None where they meet none."""
        for kind, address in touches:
            for number, row in enumerate(self.rows):
                if row is not None and row[0] <= address <= row[1] and kind in row[2]:
                    return ("watch", number, address, kind)
        return None
