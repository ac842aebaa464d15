"""What counts as a whole number, by itself and by figures, as a word, an image and a line."""

from boardheld.memory import FLASH_END, WORD_MOST

LINE_MOST = 3


def is_whole(thing):
    """Whether a thing of any kind is a whole number; a truth is none."""
    return isinstance(thing, int) and not isinstance(thing, bool)


def is_between(thing, least, greatest):
    """Whether a thing of any kind is a whole number from least to greatest."""
    return is_whole(thing) and least <= thing <= greatest


def is_word(thing):
    """Whether a thing of any kind is a word."""
    return is_between(thing, 0, WORD_MOST)


def is_image(thing):
    """Whether a thing is an image: words for flash, no more than it has room for."""
    return isinstance(thing, list) and len(thing) <= FLASH_END and all([is_word(word) for word in thing])


def figured(part, most):
    """The number that a text writes by at most so many figures, None where it writes none."""
    if not part.isascii() or not part.isdigit() or len(part) > most:
        return None
    if part[0] == "0" and part != "0":
        return None
    return int(part)


def is_line(thing):
    """Whether a thing is a line: beats that rise from 1 on, each with its value."""
    if not isinstance(thing, list):
        return False
    last = 0
    for row in thing:
        if not is_line_row(row, last):
            return False
        last = row[0]
    return True


def is_line_row(row, last):
    """Whether a row may stand in a line behind one of the beat last."""
    if not isinstance(row, tuple) or len(row) != 2:
        return False
    return is_whole(row[0]) and row[0] > last and is_between(row[1], 0, LINE_MOST)
