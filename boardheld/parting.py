"""Where two boards of two images and one line part."""

from boardheld.board import Board
from boardheld.memory import FLASH_END


def first_parting(image, other, line, most):
    """The number of the first turn in which the two boards part, None where there is none among most turns."""
    one = Board(image, line)
    two = Board(other, line)
    for number in range(most):
        if one.turn() != two.turn() or not stand_alike(one, two):
            return number
    return None


def stand_alike(one, two):
    """Whether two boards stand alike in all but flash."""
    return (
        one.registers == two.registers and one.zero == two.zero and one.lets == two.lets
        and one.asleep == two.asleep and one.beat == two.beat and one.stopped == two.stopped
        and one.sent == two.sent and one.memory.words[FLASH_END:] == two.memory.words[FLASH_END:]
    )
