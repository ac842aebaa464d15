"""The words laid for the rows of a program."""

from boardheld.memory import LINE_OUT
from boardheld.ops import OP_NAMES, X_SPAN

# The op that leads into a block, by the way in which its row asks; where it asks plainly, one leads past it.
LEADS_IN = {"not": "ifz", "high": "ifn"}


class Laying:
    """What was laid so far.

    words has tuples of an op's name and x, or a place in the stead of x: a tuple that places has an address
    for, or ("number", a number), for which a word is laid behind all others. row_places has the rows' numbers
    by the addresses at which they begin.
    """

    def __init__(self):
        self.words = []
        self.places = {}
        self.numbers = {}
        self.row_places = {}

    def lay(self, name, x):
        """Lays the word of an op."""
        self.words.append((name, x))

    def place(self, kind, thing):
        """Gives the address that comes to a place."""
        self.places[(kind, thing)] = len(self.words)

    def lay_row(self, kind, at, thing):
        """Lays the words of a row."""
        if kind in ("set", "out", "while", "if", "do"):
            self.row_places[len(self.words)] = at
        if kind in ("while", "if"):
            self.lay_asking(at, thing[0], thing[1])
        elif kind == "set":
            self.lay_steps(thing[1])
            self.lay("put", thing[0])
        elif kind == "out":
            self.lay_steps(thing[1])
            self.lay("put", LINE_OUT)
        elif kind == "do":
            self.lay("call", ("routine", thing))
        elif kind == "to":
            self.place("routine", thing)
        elif kind == "else":
            self.lay("go", ("end", thing))
            self.place("behind", thing)
        else:
            self.lay_end(thing[0], thing[1], thing[2])

    def lay_asking(self, at, way, steps):
        """Lays the words that ask whether a block is done, and lead past it where it isn't."""
        self.place("top", at)
        self.lay_steps(steps)
        if way == "plain":
            self.lay("ifz", ("behind", at))
        else:
            self.lay(LEADS_IN[way], len(self.words) + 2)
            self.lay("go", ("behind", at))

    def lay_end(self, kind, at, has_else):
        """Lays the words of the end of a block."""
        if kind == "to":
            self.lay("ret", 0)
        elif kind == "while":
            self.lay("go", ("top", at))
        self.place("end" if has_else else "behind", at)

    def lay_steps(self, steps):
        """Lays the words of a reckoning: its number is in a behind them, and zero tells whether it is 0."""
        for name, operand in steps:
            kind, number = operand
            if kind == "at":
                self.lay(name, number)
            elif name == "get" and number < X_SPAN:
                self.lay("lit", number)
            else:
                self.numbers.setdefault(number, len(self.numbers))
                self.lay(name, operand)

    def laid_words(self):
        """All words, those of numbers behind those of rows."""
        words = [OP_NAMES.index(name) * X_SPAN + self.x_of(x) for name, x in self.words]
        return words + list(self.numbers)

    def x_of(self, x):
        """The address of a place; what is none is x itself."""
        if not isinstance(x, tuple):
            return x
        if x[0] == "number":
            return len(self.words) + self.numbers[x[1]]
        return self.places[x]
