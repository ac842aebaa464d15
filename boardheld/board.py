"""A board, which runs by turns."""

from boardheld.deeds import DOINGS, touches_of
from boardheld.errors import NoImage
from boardheld.memory import LINE_OUT, Memory, RAM_END, TIMER_FLAG, bar_of
from boardheld.ops import OP_NAMES, X_SPAN
from boardheld.values import is_image, is_line

STACK_TOP = 767

INTERRUPT_BEATS = 3
TIMER_PC = 1
LINE_PC = 2


def first_registers():
    """The registers as they are at first."""
    return {"a": 0, "b": 0, "pc": 0, "sp": STACK_TOP}


class Board:
    """A board made of an image and a line.

    Beside the fields that the interface lists, touched has the words that the last turn read and put, in
    order, and did the name of the op that it did, None where it did none. bend has the bits that come turned
    about of the next word that a deed reads; it is 0 again behind that.
    """

    def __init__(self, image, line):
        if not is_image(image) or not is_line(line):
            raise NoImage("no image, or no line")
        self.registers = first_registers()
        self.zero = False
        self.lets = False
        self.asleep = False
        self.beat = 0
        self.stopped = None
        self.sent = []
        self.memory = Memory(image)
        self.line = list(line)
        self.line_at = 0
        self.touched = []
        self.did = None
        self.bend = 0

    def twin(self):
        """A board that stands as this one does."""
        other = Board([], self.line)
        other.stand_as(self)
        return other

    def stand_as(self, other):
        """Stands as another board of the same line does."""
        self.registers = dict(other.registers)
        self.zero = other.zero
        self.lets = other.lets
        self.asleep = other.asleep
        self.beat = other.beat
        self.stopped = other.stopped
        self.sent = list(other.sent)
        self.memory.stand_as(other.memory)
        self.line_at = other.line_at

    def lose_power(self):
        """Is as at first, but for flash, the beat, the line to come and what was sent."""
        self.registers = first_registers()
        self.zero = False
        self.lets = False
        self.asleep = False
        self.stopped = None
        self.memory.lose_power()

    def coming(self):
        """What the next turn would begin with, as things stand now."""
        if self.stopped is not None:
            return "stopped"
        called = self.memory.called_flags() != 0
        if self.asleep and not called:
            return "asleep"
        if self.lets and called:
            return "interrupt"
        return "deed"

    def turn(self):
        """Lets one turn go by, and tells what it was."""
        self.touched = []
        self.did = None
        coming = self.coming()
        if coming == "stopped":
            return coming
        if coming == "asleep":
            self.pass_beats(1)
            return coming
        self.asleep = False
        if coming == "interrupt":
            return self.begin_interrupt()
        return self.do_deed()

    def begin_interrupt(self):
        """Begins an interrupt, where its words can be put."""
        pc = self.registers["pc"]
        sp = self.registers["sp"]
        # Which flag it is counts as things stand ahead: a word put may clear it.
        flags = self.memory.called_flags()
        if not self.may_touch([("w", sp), ("w", sp - 1)]):
            return "stopped"
        self.put_by_turn(sp, pc)
        self.put_by_turn(sp - 1, 1 if self.zero else 0)
        self.registers["sp"] = sp - 2
        self.lets = False
        self.registers["pc"] = TIMER_PC if flags & TIMER_FLAG else LINE_PC
        self.pass_beats(INTERRUPT_BEATS)
        return "interrupt"

    def do_deed(self):
        """Does the deed at pc, where it can be done."""
        pc = self.registers["pc"]
        if not 0 <= pc < RAM_END:
            return self.stop(("far", pc, pc))
        op, x = divmod(self.memory.read(pc, pc), X_SPAN)
        if op >= len(OP_NAMES):
            return self.stop(("none", pc))
        name = OP_NAMES[op]
        if name == "mark":
            return self.stop(("mark", pc))
        touches = touches_of(name, x, self.registers)
        if not self.may_touch(touches):
            return "stopped"
        words = [self.memory.read(address, pc) for kind, address in touches if kind == "r"]
        if words:
            words[0] = words[0] ^ self.bend
            self.bend = 0
        self.did = name
        self.registers["pc"] = pc + 1
        doing = DOINGS[name]
        doing(self, x, words)
        self.pass_beats(1 + len(touches))
        return "deed"

    def may_touch(self, touches):
        """Notes the words that the turn reads and puts; stops the board where one of them can't be."""
        for kind, address in touches:
            why = bar_of(kind, address)
            if why is not None:
                self.stop((why, self.registers["pc"], address))
                return False
        self.touched = touches
        return True

    def stop(self, stop):
        """Stops the board."""
        self.stopped = stop
        return "stopped"

    def put_by_turn(self, address, word):
        """Puts a word as a turn does: the word that stands there is then the own one."""
        if address in self.memory.swapped:
            del self.memory.swapped[address]
        self.put_word(address, word)

    def put_word(self, address, word):
        """Puts a word, and sends it where that is line out."""
        if address == LINE_OUT:
            self.sent.append((self.beat, word))
        self.memory.put(address, word)

    def pass_beats(self, many):
        """Lets so many beats go by."""
        for _ in range(many):
            self.beat += 1
            self.come_line()
            self.memory.go_timer()

    def come_line(self):
        """The line comes to this beat."""
        if self.line_at < len(self.line) and self.line[self.line_at][0] == self.beat:
            self.memory.take_line(self.line[self.line_at][1])
            self.line_at += 1
