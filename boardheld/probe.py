"""A probe, which holds a board: it looks into it, changes it and lets it go."""

from boardheld.board import Board
from boardheld.counts import Counts, History
from boardheld.errors import Barred, NoWord
from boardheld.frames import Frames
from boardheld.marks import Marks
from boardheld.memory import PLACES_END, bar_of
from boardheld.mishaps import Mishaps
from boardheld.stands import Stands
from boardheld.values import is_between, is_whole, is_word
from boardheld.watches import Watches

ADDRESS_MOST = 1023

REGISTERS = ("a", "b", "pc", "sp")


def peeks_by_turn(peeks):
    """The peeked addresses by the numbers of their turns, NoWord where one of them is none."""
    found = {}
    for number, address in peeks or []:
        if not is_between(address, 0, PLACES_END - 1):
            raise NoWord("no address to peek at")
        # What is no whole number is no turn's number either.
        if is_whole(number):
            found.setdefault(number, []).append(address)
    return found


class Probe:
    """A probe and its board, made of an image and a line.

    course is None, or hears by its method note of each turn that went by.
    """

    def __init__(self, image, line):
        self.board = Board(image, line)
        self.standing = Marks(self.board.memory)
        self.watching = Watches()
        self.frames = Frames()
        self.history = History()
        self.counts = Counts()
        self.mishaps = Mishaps()
        self.stands = Stands()
        self.turns_gone = 0
        self.course = None

    def twin(self):
        """A probe that holds all that this one holds, on a board that stands as this one's does."""
        other = Probe([], self.board.line)
        other.board = self.board.twin()
        other.standing = self.standing.twin(other.board.memory)
        other.watching = self.watching.twin()
        other.frames = self.frames.twin()
        other.history = self.history.twin()
        other.counts = self.counts.twin()
        other.mishaps = self.mishaps.twin()
        other.stands = self.stands.twin()
        other.turns_gone = self.turns_gone
        return other

    def look(self, address, many):
        """So many words from an address on."""
        if not is_between(address, 0, PLACES_END - 1) or not is_between(many, 0, PLACES_END - address):
            raise NoWord("not so many words from there on")
        return [self.board.memory.word_at(at) for at in range(address, address + many)]

    def register_of(self, name):
        """A register, a truth or the beat, by its name."""
        if isinstance(name, str):
            if name in REGISTERS:
                return self.board.registers[name]
            if name == "zero":
                return self.board.zero
            if name == "lets":
                return self.board.lets
            if name == "asleep":
                return self.board.asleep
            if name == "beat":
                return self.board.beat
        raise NoWord("no register, no truth and not the beat")

    def stop_told(self):
        """The board's stop, None where it isn't stopped."""
        return self.board.stopped

    def out(self):
        """All words that were sent, with their beats."""
        return list(self.board.sent)

    def turns(self):
        """How many turns went by under this probe."""
        return self.turns_gone

    def poke(self, address, word):
        """Puts a word as a deed does, but no beat goes by."""
        if not is_between(address, 0, ADDRESS_MOST) or not is_word(word):
            raise NoWord("no address, or no word")
        why = bar_of("w", address)
        if why is not None:
            raise Barred(why)
        self.board.put_word(address, word)

    def set_register(self, name, thing):
        """Gives a register a word, or a truth a truth."""
        if not isinstance(name, str):
            raise NoWord("no name")
        if name in REGISTERS and is_word(thing):
            self.board.registers[name] = thing
            if name == "pc":
                self.board.stopped = None
        elif name == "zero" and isinstance(thing, bool):
            self.board.zero = thing
        elif name == "lets" and isinstance(thing, bool):
            self.board.lets = thing
        elif name == "asleep" and isinstance(thing, bool):
            self.board.asleep = thing
        else:
            raise NoWord("no register or truth, or nothing for it")

    def go(self, most, peeks=None):
        """Lets the board go for at most so many turns: why it is held again, and the words peeked."""
        words = []
        cause = self.let_go(most, peeks_by_turn(peeks), words, None)
        return cause, words

    def plain(self):
        """A board that stands as this one does, all words its own."""
        return self.board.twin()

    def mark(self, address, hard):
        """Sets a mark, hard or soft."""
        self.standing.lay(address, hard)

    def unmark(self, address):
        """Takes the mark at an address away."""
        self.standing.lift(address)

    def clear_marks(self):
        """Takes all marks away."""
        self.standing.lift_all()

    def marks(self):
        """All marks that stand, by their addresses."""
        return self.standing.told()

    def wear(self):
        """How often each page was erased."""
        return list(self.standing.erased)

    def watch(self, number, low, high, kind):
        """Sets a watch."""
        self.watching.lay(number, low, high, kind)

    def unwatch(self, number):
        """Ends a watch."""
        self.watching.lift(number)

    def watches(self):
        """Both watches, None for one that isn't set."""
        return list(self.watching.rows)

    def let_go(self, most, peeks, words, end):
        """Lets turns go by till something holds the board, and tells the cause.

        Peeked words are added to words. end is None, or tells by its method comes whether the turn that
        went by is the last one due; it is asked behind each turn that nothing else held.
        """
        if most > 0 and self.board.stopped is not None:
            return self.board.stopped
        for number in range(most):
            addresses = peeks.get(number, [])
            for address in addresses:
                words.append(self.peek(address))
            if number > 0 and self.meets_mark():
                self.note_gone(addresses, False)
                return ("mark", self.board.registers["pc"])
            cause = self.pass_turn(end)
            self.note_gone(addresses, True)
            if cause is not None:
                return cause
        return ("turns",)

    def note_gone(self, addresses, whole):
        """Tells the course which words were peeked, and whether a turn went by behind them."""
        if self.course is not None:
            self.course.note_gone(addresses, whole)

    def peek(self, address):
        """Reads a word, and lets a beat go by."""
        word = self.board.memory.word_at(address)
        self.board.pass_beats(1)
        self.counts.note_peek(self.frames.innermost())
        self.take_faults()
        return word

    def meets_mark(self):
        """Whether the next turn would do a deed at which a mark stands."""
        return self.standing.stands_at(self.board.registers["pc"]) and self.board.coming() == "deed"

    def pass_turn(self, end):
        """Lets one turn go by: the cause why the board is held behind it, None where nothing holds it."""
        depth = len(self.frames.rows)
        sort = self.follow_turn()
        if self.board.stopped is not None:
            return self.board.stopped
        cause = self.watching.met(self.board.touched)
        if cause is None and end is not None and end.comes(sort, depth, len(self.frames.rows)):
            return ("done",)
        return cause

    def follow_turn(self):
        """Lets one turn go by with the faults that come in it and behind it, and notes it."""
        fault = self.mishaps.bending(self.board.beat)
        if fault is None:
            sort = self.note_turn()
        else:
            self.board.bend = fault[2]
            sort = self.note_turn()
            if self.board.bend == 0:
                self.mishaps.come(fault, self.board.beat)
            self.board.bend = 0
        self.take_faults()
        return sort

    def take_faults(self):
        """Takes the faults that come behind a turn, or a peek."""
        for fault in self.mishaps.due(self.board.beat):
            self.mishaps.come(fault, self.board.beat)
            if fault[0] == "bit":
                self.board.memory.turn_bit(fault[2], fault[3])
            else:
                self.board.lose_power()
                self.frames = Frames()

    def note_turn(self):
        """Lets one turn of the board go by, and notes it."""
        beat = self.board.beat
        pc = self.board.registers["pc"]
        to = self.frames.innermost()
        sort = self.board.turn()
        if sort == "stopped":
            return sort
        self.frames.follow(sort, self.board.did, pc, self.board.registers["pc"])
        if sort == "interrupt":
            # Its beats belong to its own frame, those of other turns to the frame in which they begin.
            to = self.frames.innermost()
        self.turns_gone += 1
        self.history.note(beat, sort, pc)
        self.counts.note_turn(sort, pc, self.board.beat - beat, to)
        return sort
