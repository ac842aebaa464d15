"""Images as texts, and texts as images."""

from boardheld.errors import NoText
from boardheld.memory import ERASED, FLASH_END, WORD_MOST
from boardheld.ops import OP_NAMES, OPS_WITH_X, X_SPAN
from boardheld.values import figured

FIGURES_MOST = 5
LETTERS_MOST = 8


def row_of(word):
    """The row of a word."""
    op = word // X_SPAN
    x = word % X_SPAN
    if op >= len(OP_NAMES):
        return f"word {word}"
    name = OP_NAMES[op]
    if name in OPS_WITH_X:
        return f"{name} {x}"
    if x == 0:
        return name
    return f"word {word}"


def listed(image):
    """The text of an image."""
    return "\n".join([row_of(word) for word in image])


def number_of(part):
    """The number that a part of a row writes, None where it writes none."""
    return figured(part, FIGURES_MOST)


def is_name(part):
    """Whether a part of a row is a name."""
    return part.isascii() and part.isalpha() and part.islower() and len(part) <= LETTERS_MOST


class Sheet:
    """What the rows of a text have laid and named so far, and which names they use.

    Each method that takes a row, or a part of one, tells whether it may stand there.
    """

    def __init__(self):
        self.words = []
        self.names = {}
        self.uses = []

    def take(self, at, row):
        """Does the row that has the number at."""
        if row == "":
            return True
        if row.endswith(":"):
            return self.take_name(row[:-1])
        parts = row.split(" ")
        if len(parts) == 1:
            return self.take_bare(row)
        if len(parts) == 2:
            return self.take_pair(at, parts[0], parts[1])
        return False

    def take_name(self, name):
        """Names the address that comes."""
        if not is_name(name) or name in self.names:
            return False
        self.names[name] = len(self.words)
        return True

    def take_bare(self, op):
        """Lays the word of an op without x."""
        if op not in OP_NAMES or op in OPS_WITH_X:
            return False
        return self.lay(OP_NAMES.index(op) * X_SPAN, 1)

    def take_pair(self, at, head, part):
        """Does a row of two parts."""
        if head == "at":
            return self.take_at(number_of(part))
        if head == "keep":
            return self.take_keep(number_of(part))
        if head == "word":
            return self.take_worth(at, 0, part, WORD_MOST)
        if head in OPS_WITH_X:
            return self.take_worth(at, OP_NAMES.index(head) * X_SPAN, part, X_SPAN - 1)
        return False

    def take_at(self, address):
        """Goes on at an address."""
        if address is None or address < len(self.words):
            return False
        return self.lay(ERASED, address - len(self.words))

    def take_keep(self, many):
        """Lays so many words 0."""
        if many is None:
            return False
        return self.lay(0, many)

    def take_worth(self, at, base, part, most):
        """Lays a word that is base and a number up to most, or the address of a name."""
        if is_name(part):
            self.uses.append((at, len(self.words), part))
            return self.lay(base, 1)
        number = number_of(part)
        if number is None or number > most:
            return False
        return self.lay(base + number, 1)

    def lay(self, word, many):
        """Lays a word so many times, where there is room."""
        if len(self.words) + many > FLASH_END:
            return False
        self.words.extend([word] * many)
        return True

    def put_names_in(self):
        """Adds its name's address to each word that was laid for a name."""
        for at, address, name in self.uses:
            if name not in self.names:
                raise NoText(at)
            self.words[address] += self.names[name]


def typed(text):
    """The image that a text lays, and its names with their addresses."""
    sheet = Sheet()
    for at, row in enumerate(text.split("\n")):
        if not sheet.take(at, row):
            raise NoText(at)
    # A name may stand behind what uses it, and a wrong row comes ahead of a missing name.
    sheet.put_names_in()
    return sheet.words, sheet.names
