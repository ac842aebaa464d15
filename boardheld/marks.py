"""The marks on a board's words, and what the soft ones wear."""

from boardheld.errors import NoMark, NoWord, Taken, TooMany
from boardheld.memory import FLASH_END, RAM_END
from boardheld.values import is_between, is_whole

PAGES = 16
PAGE_WORDS = 32
HARD_MOST = 2


class Marks:
    """The hard marks, by their addresses, and how often each page was erased.

    Where the soft ones stand the memory itself has: they are its swapped words.
    """

    def __init__(self, memory):
        self.memory = memory
        self.hard = {}
        self.erased = [0] * PAGES

    def twin(self, memory):
        """The same marks, on another memory of the same words, that come and go by themselves."""
        other = Marks(memory)
        memory.swapped = dict(self.memory.swapped)
        other.hard = dict(self.hard)
        other.erased = list(self.erased)
        return other

    def stands_at(self, address):
        """Whether a mark of either kind stands at an address."""
        return address in self.hard or address in self.memory.swapped

    def lay(self, address, hard):
        """Sets a mark."""
        if not is_between(address, 0, RAM_END - 1):
            raise NoWord("no address of flash or ram")
        if self.stands_at(address):
            raise Taken("a mark stands there")
        if not hard:
            self.memory.swapped[address] = True
            return
        if len(self.hard) >= HARD_MOST:
            raise TooMany("two hard marks stand")
        self.hard[address] = True

    def lift(self, address):
        """Takes a mark away."""
        # A thing of another kind may equal an address, or not be fit for a key.
        if not is_whole(address) or not self.stands_at(address):
            raise NoMark("no mark stands there")
        if address in self.hard:
            del self.hard[address]
            return
        self.wear_pages([address])
        del self.memory.swapped[address]

    def lift_all(self):
        """Takes all marks away."""
        self.wear_pages(list(self.memory.swapped))
        self.memory.swapped = {}
        self.hard = {}

    def wear_pages(self, addresses):
        """Wears once each page in which one of these soft marks stands: its words come again by erasing."""
        for page in sorted({address // PAGE_WORDS for address in addresses if address < FLASH_END}):
            self.erased[page] += 1

    def told(self):
        """All marks that stand, by their addresses."""
        hard = [(address, "hard") for address in self.hard]
        return sorted(hard + [(address, "soft") for address in self.memory.swapped])
