"""Point 4 (with 2 and 3): a board that is held does what the same board does alone.

A model of the board stands here again, written from the document as plainly as can be, and boards of many
programs are held against it turn by turn.
"""

import random
import unittest

from boardheld.board import Board
from boardheld.listing import typed
from boardheld.probe import Probe
from boardheld.steps import frames_of, step_in, step_out, step_over, strays_of
from boardheld.traces import clear_counts, clear_trace, faded, idle, peeked, profile, spent, trace

BUSY = "go main\ngo timer\ngo come\nmain:\nlet 1\nlit 3\nput 771\nlit 97\nput 769\nloop:\ncall deep\nsleep\n" \
    "get 600\nput 773\ngo loop\ndeep:\nget 600\nadd one\nput 600\nhalf\nput 601\ncall less\nret\nless:\n" \
    "push\npop\nret\none:\nword 1\ntimer:\npush\nlit 1\nput 770\ncall less\npop\nback\ncome:\npush\nlit 2\n" \
    "put 770\npop\nback"


class Model:
    """A board as the document tells of it, one list of words and one dict of all else."""

    def __init__(self, image, line):
        self.m = image + [65535] * (512 - len(image)) + [0] * 262
        self.line = dict(line)
        self.r = {"a": 0, "b": 0, "pc": 0, "sp": 767, "zero": False, "lets": False, "asleep": False, "beat": 0}
        self.stop = None
        self.sent = []

    def beats(self, many):
        for _ in range(many):
            self.r["beat"] += 1
            if self.r["beat"] in self.line:
                was = self.m[772] & 1
                self.m[772] = self.line[self.r["beat"]]
                if was == 0 and self.m[772] & 1 == 1:
                    self.m[770] |= 2
            if self.m[769] > 0:
                self.m[768] += 1
                if self.m[768] >= self.m[769]:
                    self.m[768] = 0
                    self.m[770] |= 1

    def bar(self, address, puts):
        if not 0 <= address <= 773:
            return "far"
        if puts and address <= 511:
            return "flash"
        if puts and address == 772:
            return "still"
        return None

    def put(self, address, word):
        if address == 773:
            self.sent.append((self.r["beat"], word))
        self.m[address] = self.m[address] & ~word if address == 770 else word

    def turn(self):
        if self.stop is not None:
            return "stopped"
        r = self.r
        flags = self.m[770] & self.m[771]
        if r["asleep"] and not flags:
            self.beats(1)
            return "asleep"
        r["asleep"] = False
        if r["lets"] and flags:
            for address in (r["sp"], r["sp"] - 1):
                why = self.bar(address, True)
                if why:
                    self.stop = (why, r["pc"], address)
                    return "stopped"
            self.put(r["sp"], r["pc"])
            self.put(r["sp"] - 1, int(r["zero"]))
            r.update(sp=r["sp"] - 2, lets=False, pc=1 if flags & 1 else 2)
            self.beats(3)
            return "interrupt"
        return self.deed()

    def deed(self):
        r, m = self.r, self.m
        pc = r["pc"]
        if pc > 767:
            self.stop = ("far", pc, pc)
            return "stopped"
        op, x = m[pc] // 1024, m[pc] % 1024
        if op == 0 or op >= 23:
            self.stop = ("none" if op else "mark", pc)
            return "stopped"
        reads, puts = [], []
        if op in (2, 4, 5, 6, 7):
            reads = [x]
        if op == 8:
            reads = [x + r["b"]]
        if op in (16, 18, 21):
            reads = [r["sp"] + 1]
        if op == 21:
            reads.append(r["sp"] + 2)
        if op == 3:
            puts = [x]
        if op == 9:
            puts = [x + r["b"]]
        if op in (15, 17):
            puts = [r["sp"]]
        for address in reads + puts:
            why = self.bar(address, address in puts)
            if why:
                self.stop = (why, pc, address)
                return "stopped"
        self.do(op, x, [m[address] for address in reads], puts)
        self.beats(1 + len(reads) + len(puts))
        return "deed"

    def do(self, op, x, read, puts):
        r = self.r
        a, b, pc = r["a"], r["b"], r["pc"]
        r["pc"] = pc + 1
        given = {1: x, 11: b, 22: a // 2}
        if read:
            m = read[0]
            given.update({2: m, 4: (a + m) % 65536, 5: (a - m) % 65536, 6: a & m, 7: a ^ m, 8: m, 18: m})
        if op in given:
            r["a"] = given[op]
            r["zero"] = given[op] == 0
        if puts:
            self.put(puts[0], pc + 1 if op == 15 else a)
        if op in (10, 11):
            r["b"] = a
        if op in (12, 15) or op == 13 and r["zero"] or op == 14 and a >= 32768:
            r["pc"] = x
        r["sp"] += {15: -1, 16: 1, 17: -1, 18: 1, 21: 2}.get(op, 0)
        if op == 16:
            r["pc"] = read[0]
        if op == 19:
            r["asleep"] = True
        if op == 20:
            r["lets"] = x % 2 == 1
        if op == 21:
            r.update(zero=read[0] % 2 == 1, pc=read[1], lets=True)

    def stands(self):
        return [dict(self.r), self.stop, list(self.sent), list(self.m)]


def board_stands(board):
    rest = {"zero": board.zero, "lets": board.lets, "asleep": board.asleep, "beat": board.beat}
    words = [board.memory.word_at(address) for address in range(774)]
    return [{**board.registers, **rest}, board.stopped, list(board.sent), words]


def probe_stands(probe):
    names = ("a", "b", "pc", "sp", "zero", "lets", "asleep", "beat")
    registers = {name: probe.register_of(name) for name in names}
    return [registers, probe.stop_told(), probe.out(), probe.look(0, 774)]


def some_word(chance):
    """A word that is mostly a deed that can be done."""
    op = chance.choice([1, 1, 2, 3, 4, 5, 6, 7, 8, 9, 10, 11, 12, 13, 14, 15, 16, 17, 18, 19, 20, 21, 22])
    if chance.random() < 0.01:
        op = chance.choice([0, chance.randrange(64)])
    near = [chance.randrange(40), chance.randrange(512, 520), chance.randrange(768, 774)]
    if op in (12, 13, 14, 15):
        x = near[0]
    elif op in (3, 9):
        x = chance.choice(near[1:])
    else:
        x = chance.choice(near)
    if chance.random() < 0.02:
        x = chance.randrange(1024)
    return op * 1024 + x


def some_line(chance):
    beats = sorted(chance.sample(range(1, 400), chance.randrange(60)))
    return [(beat, chance.randrange(4)) for beat in beats]


def set_up(chance, seed):
    """A probe and a model of the same program, with the same things put from outside."""
    image = [some_word(chance) for _ in range(40)] + [65535] * chance.randrange(3)
    line = some_line(chance)
    probe, model = Probe(list(image), list(line)), Model(image, line)
    for address in [*range(512, 520), 768, 769, 771]:
        word = chance.choice([0, 1, 3, chance.randrange(30), chance.randrange(65536)])
        probe.poke(address, word)
        model.put(address, word)
    things = {"lets": True, "sp": chance.choice([767, 767, 767, 700, 515, 513, 770, 773]), "pc": chance.randrange(40)}
    if seed % 5 == 0:
        things["pc"] = chance.randrange(65536)
    for name, thing in things.items():
        probe.set_register(name, thing)
        model.r[name] = thing
    return probe, model


class AgainstTheModel(unittest.TestCase):
    def test_boards(self):
        seen = {}
        stops = {}
        for seed in range(400):
            probe, model = set_up(random.Random(seed), seed)
            board = probe.plain()
            for _ in range(150):
                told = board.turn()
                self.assertEqual(told, model.turn(), seed)
                self.assertEqual(board_stands(board), model.stands(), seed)
                seen[told] = seen.get(told, 0) + 1
            if board.stopped:
                stops[board.stopped[0]] = stops.get(board.stopped[0], 0) + 1
        # The programs are worth running when they come to all that there is.
        self.assertEqual(sorted(seen), ["asleep", "deed", "interrupt", "stopped"])
        self.assertGreater(min(seen.values()), 300)
        self.assertEqual(sorted(stops), ["far", "flash", "mark", "none", "still"])

    def test_probes_that_go_by_pieces(self):
        for seed in range(200):
            chance = random.Random(seed)
            probe, model = set_up(chance, seed)
            for address in chance.sample(range(768), 2):
                probe.mark(address, True)
            for number in (0, 1):
                probe.watch(number, *sorted(chance.sample(range(774), 2)), chance.choice(["r", "w", "rw"]))
            done = 0
            for _ in range(30):
                self.piece(probe, chance)
                while done < probe.turns():
                    model.turn()
                    done += 1
                if probe.stop_told() is not None:
                    self.assertEqual(model.turn(), "stopped")
                self.assertEqual(probe_stands(probe), model.stands(), seed)
                self.asked(probe)
                self.assertEqual(board_stands(probe.plain()), model.stands(), seed)

    def piece(self, probe, chance):
        """Lets the board go a piece, in one of the ways that there are."""
        way = chance.randrange(5)
        if way == 0:
            step_in(probe)
        elif way == 1:
            step_over(probe, chance.randrange(12))
        elif way == 2 and frames_of(probe):
            step_out(probe, chance.randrange(12))
        else:
            probe.go(chance.randrange(12))

    def asked(self, probe):
        """Asks all that there is to ask, clears what may be cleared."""
        for told in (trace, profile, spent, idle, peeked, faded, strays_of, frames_of):
            told(probe)
        probe.marks()
        probe.wear()
        probe.watches()
        clear_trace(probe)
        clear_counts(probe)

    def test_plain_runs_on_by_itself(self):
        for seed in range(60):
            chance = random.Random(seed)
            probe, model = set_up(chance, seed)
            for _ in range(chance.randrange(60)):
                step_in(probe)
                model.turn()
            for address in chance.sample(range(768), 300):
                probe.mark(address, False)
            before = probe_stands(probe)
            board = probe.plain()
            for _ in range(60):
                self.assertEqual(board.turn(), model.turn())
            self.assertEqual(board_stands(board), model.stands())
            self.assertEqual(probe_stands(probe), before)


class AlongOneProgram(unittest.TestCase):
    LINE = [(beat, beat % 4) for beat in range(5, 3000, 31)]

    def test_soft_marks_that_nothing_reads_change_nothing(self):
        image, names = typed(BUSY)
        probe, board = Probe(image, list(self.LINE)), Board(image, list(self.LINE))
        for name in ("main", "loop", "deep", "less", "timer", "come"):
            probe.mark(names[name], False)
        causes = {}
        for _ in range(400):
            cause = probe.go(50)[0]
            causes[cause] = causes.get(cause, 0) + 1
        for _ in range(probe.turns()):
            board.turn()
        self.assertEqual(probe_stands(probe), board_stands(board))
        self.assertEqual(board_stands(probe.plain()), board_stands(board))
        self.assertGreater(len(causes), 3)

    def test_hundred_thousand_turns(self):
        image = typed(BUSY)[0]
        probe, board = Probe(image, list(self.LINE)), Board(image, list(self.LINE))
        self.assertEqual(probe.go(100000), (("turns",), []))
        for _ in range(100000):
            board.turn()
        self.assertEqual(probe_stands(probe), board_stands(board))
        self.assertEqual((probe.turns(), len(trace(probe)), faded(probe)), (100000, 32, 99968))

    def test_peeks_take_beats_alone(self):
        # A board with peeks does what it does where so many beats more go by ahead of a turn.
        image = typed(BUSY)[0]
        probe, model = Probe(image, list(self.LINE)), Model(list(image), self.LINE)
        for turn in range(500):
            probe.go(1, [(0, turn % 774)] * (turn % 3))
            model.beats(turn % 3)
            model.turn()
            self.assertEqual(probe_stands(probe), model.stands())


if __name__ == "__main__":
    unittest.main()
