"""A desk asked from afar, by letters that may be lost, doubled, kept back and bent on the way."""

from boardheld.errors import NoLetter, Waiting
from boardheld.logs import Desk
from boardheld.values import figured

KINDS = ("q", "a")
NUMBER_FIGURES = 5
CHECK_FIGURES = 4
CHECK_SPAN = 9973


def check_of(kind, number, text):
    """The check of a letter: the sum of its signs' numbers, each times its place."""
    signs = f"{kind}{number} {text}"
    return sum([place * ord(sign) for place, sign in enumerate(signs, 1)]) % CHECK_SPAN


def letter_of(kind, number, text):
    """The letter of a kind, with a number and a text."""
    return f"{kind}{number} {check_of(kind, number, text)} {text}"


def opened(kind, letter):
    """The number and the text of a letter of a kind."""
    if not isinstance(letter, str) or kind not in KINDS or letter[:1] != kind:
        raise NoLetter("no letter of this kind")
    head, _, rest = letter[1:].partition(" ")
    check, blank, text = rest.partition(" ")
    number = figured(head, NUMBER_FIGURES)
    if number is None or blank == "" or figured(check, CHECK_FIGURES) != check_of(kind, number, text):
        raise NoLetter("no letter, or one that was bent")
    return number, text


class Far:
    """The far end, which has the desk, made of an image and a line."""

    def __init__(self, image, line):
        self.own_desk = Desk(image, line)
        self.last = 0
        self.kept_letter = None

    def hear(self, letter):
        """Does what a letter asks, once, and tells the letter that answers it; None where it leaves it."""
        try:
            number, text = opened("q", letter)
        except NoLetter:
            return None
        if number == self.last + 1:
            self.kept_letter = letter_of("a", number, self.own_desk.say(text))
            self.last = number
        elif number != self.last:
            return None
        # Ahead of the first letter that is done none is kept, so that number 0 is left, too.
        return self.kept_letter

    def desk(self):
        """The desk."""
        return self.own_desk


class Near:
    """The near end, which asks rows, one at a time."""

    def __init__(self):
        self.number = 0
        self.asked = None
        self.brought = []

    def ask(self, row):
        """The letter that asks a row."""
        if self.asked is not None:
            raise Waiting("the answer to the letter before is to come")
        self.number += 1
        self.asked = letter_of("q", self.number, row)
        return self.asked

    def again(self):
        """The letter whose answer is to come, None where none is."""
        return self.asked

    def hear(self, letter):
        """The text that a letter brings, None where it isn't the answer that is to come."""
        if self.asked is None:
            return None
        try:
            number, text = opened("a", letter)
        except NoLetter:
            return None
        if number != self.number:
            return None
        self.asked = None
        self.brought.append(text)
        return text

    def told(self):
        """All texts brought, in order."""
        return list(self.brought)
