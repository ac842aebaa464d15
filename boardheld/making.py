"""Programs in rows, and their images."""

from boardheld.errors import NoText, TooMany
from boardheld.laying import Laying
from boardheld.memory import FLASH_END
from boardheld.reading import Reading


class Program:
    """A program, made of a text, and its image."""

    def __init__(self, text):
        reading = read(text)
        laying = Laying()
        for kind, at, thing in reading.main:
            laying.lay_row(kind, at, thing)
        # The end of the program; routines are laid behind it, so that nothing runs into them.
        laying.lay("mark", 0)
        for kind, at, thing in reading.inside:
            laying.lay_row(kind, at, thing)
        self.words = laying.laid_words()
        if len(self.words) > FLASH_END:
            raise TooMany("no image of this program is small enough")
        self.row_places = laying.row_places
        self.var_places = reading.var_places

    def image(self):
        """The image."""
        return list(self.words)

    def rows_at(self):
        """The numbers of the rows that set, send, ask or do, by the addresses at which they begin."""
        return dict(self.row_places)

    def vars_at(self):
        """The addresses of the vars."""
        return dict(self.var_places)


def read(text):
    """What the rows of a text tell, NoText where it is no program."""
    reading = Reading()
    rows = text.split("\n")
    for at, row in enumerate(rows):
        if not reading.take(at, row):
            raise NoText(at)
    if reading.blocks:
        raise NoText(len(rows))
    undone = reading.first_undone()
    if undone is not None:
        raise NoText(undone)
    return reading
