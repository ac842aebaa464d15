"""The words of a board: flash, ram and places."""

# Each is the first address behind that part, and the next part begins there.
FLASH_END = 512
RAM_END = 768
PLACES_END = 774

COUNT = 768
TOP = 769
FLAGS = 770
MASK = 771
LINE_IN = 772
LINE_OUT = 773

TIMER_FLAG = 1
LINE_FLAG = 2

WORD_MOST = 65535
ERASED = 65535


def bar_of(kind, address):
    """Why no word can be read ("r") or put ("w") there, None where one can."""
    if not 0 <= address < PLACES_END:
        return "far"
    if kind == "r":
        return None
    if address < FLASH_END:
        return "flash"
    if address == LINE_IN:
        return "still"
    return None


class Memory:
    """Flash that begins with an image, and ram and places, at first nought.

    All words here are the own ones; swapped has, as keys, the addresses at which the board reads 0 instead.
    """

    def __init__(self, image):
        erased = [ERASED] * (FLASH_END - len(image))
        nought = [0] * (PLACES_END - FLASH_END)
        self.words = list(image) + erased + nought
        self.swapped = {}

    def word_at(self, address):
        """The own word at an address, None where there is none."""
        if 0 <= address < PLACES_END:
            return self.words[address]
        return None

    def read(self, address, pc):
        """The word that the board reads in a turn at pc, where a swapped word is its own again."""
        if address in self.swapped and address != pc:
            return 0
        return self.words[address]

    def put(self, address, word):
        """Puts a word where one can be put."""
        if address == FLAGS:
            self.words[FLAGS] = self.words[FLAGS] & (WORD_MOST - word)
        else:
            self.words[address] = word

    def called_flags(self):
        """The flags that are set and that the mask has too."""
        return self.words[FLAGS] & self.words[MASK]

    def take_line(self, value):
        """Line in becomes a value."""
        rises = value % 2 > self.words[LINE_IN] % 2
        self.words[LINE_IN] = value
        if rises:
            self.words[FLAGS] = self.words[FLAGS] | LINE_FLAG

    def go_timer(self):
        """The timer goes for one beat."""
        top = self.words[TOP]
        if top == 0:
            return
        count = self.words[COUNT] + 1
        if count >= top:
            count = 0
            self.words[FLAGS] = self.words[FLAGS] | TIMER_FLAG
        self.words[COUNT] = count

    def turn_bit(self, address, bit):
        """Turns a bit of a word about."""
        self.words[address] = self.words[address] ^ (1 << bit)

    def lose_power(self):
        """Ram and places are nought, and nothing swaps words of ram any more."""
        self.words = self.words[:FLASH_END] + [0] * (PLACES_END - FLASH_END)
        self.swapped = {address: True for address in self.swapped if address < FLASH_END}

    def stand_as(self, other):
        """Has the same words as another memory, each its own: what swaps them is not the board's."""
        self.words = list(other.words)
