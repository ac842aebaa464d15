"""The rows of a program read."""

from boardheld.memory import FLASH_END, LINE_IN, WORD_MOST
from boardheld.values import figured

ROWS_MOST = 200
VARS_MOST = 40
SIGNS_MOST = 8
FIGURES_MOST = 5
LETTERS_MOST = 8

NO_NAMES = ("var", "while", "if", "else", "end", "to", "do", "out", "not", "high", "half", "in")

# What is done with the operand behind each sign.
SIGNS = {"+": "add", "-": "sub", "&": "and", "^": "xor"}


class Reading:
    """What the rows of a program tell so far.

    var_places has the vars' addresses, routines the names of routines, as keys. blocks has the open blocks,
    the outermost first: tuples of the kind, the row's number and whether it has an else. Of the rows that do
    something main has those outside of routines and inside those of routines, tuples of the kind, the row's
    number and what stands in it. Each method that takes a row, or a part of one, tells whether it may stand.
    """

    def __init__(self):
        self.var_places = {}
        self.routines = {}
        self.blocks = []
        self.main = []
        self.inside = []

    def take(self, at, row):
        """Takes the row that has the number at."""
        if at >= ROWS_MOST:
            return False
        if row == "":
            return True
        parts = row.split(" ")
        if parts[0] in ("while", "if"):
            return self.take_asking(at, parts[0], parts[1:])
        if parts[0] == "out":
            return self.take_reckoning("out", at, None, parts[1:])
        if row in ("else", "end"):
            return self.take_else(at) if row == "else" else self.take_end(at)
        if len(parts) == 2:
            return self.take_named(at, parts[0], parts[1])
        if parts[0] not in self.var_places or parts[1:2] != ["="]:
            return False
        return self.take_reckoning("set", at, self.var_places[parts[0]], parts[2:])

    def take_named(self, at, head, name):
        """Takes a row of a head and a name."""
        if not is_name(name):
            return False
        if head == "do":
            self.note("do", at, name)
            return True
        if head not in ("var", "to") or self.blocks or name in self.var_places or name in self.routines:
            return False
        if head == "var":
            if len(self.var_places) >= VARS_MOST:
                return False
            self.var_places[name] = FLASH_END + len(self.var_places)
            return True
        self.routines[name] = True
        self.blocks.append(("to", at, False))
        self.note("to", at, name)
        return True

    def take_asking(self, at, kind, parts):
        """Takes a row that asks, and opens its block."""
        way = "plain"
        if parts[:1] == ["not"] or parts[:1] == ["high"]:
            way = parts[0]
            parts = parts[1:]
        if not self.take_reckoning(kind, at, way, parts):
            return False
        self.blocks.append((kind, at, False))
        return True

    def take_reckoning(self, kind, at, thing, parts):
        """Takes a row of a reckoning, beside which another thing stands in it."""
        steps = steps_of(parts, self.var_places)
        if steps is None:
            return False
        self.note(kind, at, (thing, steps))
        return True

    def take_else(self, at):
        """Takes an else."""
        if not self.blocks:
            return False
        kind, opened_at, has_else = self.blocks[-1]
        if kind != "if" or has_else:
            return False
        self.blocks[-1] = (kind, opened_at, True)
        self.note("else", at, opened_at)
        return True

    def take_end(self, at):
        """Takes an end."""
        if not self.blocks:
            return False
        self.note("end", at, self.blocks[-1])
        del self.blocks[-1]
        return True

    def note(self, kind, at, thing):
        """Notes a row that does something."""
        if self.blocks and self.blocks[0][0] == "to":
            self.inside.append((kind, at, thing))
        else:
            self.main.append((kind, at, thing))

    def first_undone(self):
        """The number of the first do whose routine is none, None where there is none."""
        wrong = [at for kind, at, thing in self.main + self.inside if kind == "do" and thing not in self.routines]
        return min(wrong, default=None)


def is_name(part):
    """Whether a part of a row is a name."""
    letters = part.isascii() and part.isalpha() and part.islower()
    return letters and len(part) <= LETTERS_MOST and part not in NO_NAMES


def steps_of(parts, var_places):
    """The steps of a reckoning, from left to right, None where the parts of a row make none.

    A step is a tuple of what is done, by the name of an op, and of the operand (0 beside half).
    """
    if parts == []:
        return None
    steps = [("get", operand_of(parts[0], var_places))]
    at = 1
    while at < len(parts):
        if parts[at] == "half":
            steps.append(("half", ("at", 0)))
            at += 1
        elif parts[at] in SIGNS and at + 1 < len(parts):
            steps.append((SIGNS[parts[at]], operand_of(parts[at + 1], var_places)))
            at += 2
        else:
            return None
    if len(steps) > SIGNS_MOST + 1 or None in [operand for name, operand in steps]:
        return None
    return steps


def operand_of(part, var_places):
    """An operand: ("number", it) or ("at", the address of its word); None where a part of a row is none."""
    if part == "in":
        return ("at", LINE_IN)
    if part in var_places:
        return ("at", var_places[part])
    number = figured(part, FIGURES_MOST)
    if number is None or number > WORD_MOST:
        return None
    return ("number", number)
