"""Points 42 and 43 (with 4 and 41): a desk's way back and forth."""

import random
import time
import unittest
from unittest import mock

from boardheld.errors import BoardError
from boardheld.faults import go_back, keep, put_fault
from boardheld.listing import typed
from boardheld.logs import Desk, replayed
from boardheld.probe import Probe
from boardheld.programming import erase, load
from boardheld.steps import forget_frames, step_in, step_out, step_over
from boardheld.traces import clear_counts, clear_trace

from tests.test_desk import ASKS, asked_of
from tests.test_held import BUSY, board_stands, some_line, some_word

LINE = [(beat, beat % 4) for beat in range(3, 900, 7)]
LOOP = "loop:\nlit 1\nlit 2\nlit 3\ngo loop"


def desk_of(text, line=()):
    return Desk(typed(text)[0], list(line))


def told(desk):
    """All that a desk tells by rows that only ask."""
    rows = [desk.say(row) for row in (*ASKS, "changed 0", "changed 1")]
    return rows + [board_stands(desk.plain())]


def do_row(probe, row):
    """Does a row that does, by the functions themselves."""
    head, *parts = row.split(" ")
    numbers = [int(part) for part in parts if part.isdigit()]
    doing = {
        "go": lambda: probe.go(numbers[0], list(zip(numbers[1::2], numbers[2::2]))), "in": lambda: step_in(probe),
        "over": lambda: step_over(probe, numbers[0]), "out": lambda: step_out(probe, numbers[0]),
        "poke": lambda: probe.poke(*numbers), "keep": lambda: keep(probe), "goback": lambda: go_back(probe, numbers[0]),
        "set": lambda: probe.set_register(parts[0], numbers[0] if numbers else parts[1] == "yes"),
        "mark": lambda: probe.mark(numbers[0], parts[1] == "hard"), "unmark": lambda: probe.unmark(numbers[0]),
        "clear": probe.clear_marks, "watch": lambda: probe.watch(*numbers, parts[3]),
        "forget": lambda: forget_frames(probe),
        "untrace": lambda: clear_trace(probe), "uncount": lambda: clear_counts(probe),
        "erase": lambda: erase(probe, *numbers),
        "fault": lambda: put_fault(probe, (parts[0], *numbers)), "load": lambda: load(probe, numbers),
    }
    doing[head]()


class Again:
    """A desk that goes back by doing all rows again, on a new probe, up to the turn; it keeps nothing else."""

    def __init__(self, image, line):
        self.image, self.line = image, line
        self.rows = []
        self.over = 0
        self.probe = self.made([])

    def made(self, rows):
        """A probe to which rows were done, tuples of a row and how many of its turns (None for all)."""
        probe = Probe(list(self.image), list(self.line))
        for row, turns in rows:
            if turns is None:
                do_row(probe, row)
            else:
                numbers = [int(part) for part in row.split(" ")[1:]] if row[:2] == "go" else [0]
                probe.go(turns, list(zip(numbers[1::2], numbers[2::2])))
        return probe

    def cut(self, left):
        """The rows up to ahead of the turn that so many ones went by ahead of."""
        done = []
        for row, turns in self.rows:
            probe = self.made(done + [(row, turns)])
            if probe.turns() <= left:
                done.append((row, turns))
                continue
            most = 1 if row == "in" else int(row.split(" ")[1])
            # The last way to have just so many turns is ahead of the one to go back over, or it ran into a stop.
            for some in range(most if turns is None else turns, -1, -1):
                probe = self.made(done + [(row, some)])
                if probe.turns() == left and probe.stop_told() is None:
                    return done + [(row, some)]
        return done

    def say(self, row):
        head, *parts = row.split(" ")
        if head in ("back", "forth"):
            over = self.over + int(parts[0]) * (1 if head == "back" else -1)
            all_turns = self.made(self.rows).turns()
            if over < 0 or over > all_turns:
                return "refused noturn"
            if int(parts[0]) > 0:
                self.over = over
                self.probe = self.made(self.cut(all_turns - over) if over else self.rows)
            return "done"
        try:
            do_row(self.probe, row)
        except BoardError:
            return "refused"
        if self.over > 0:
            self.rows = self.cut(self.made(self.rows).turns() - self.over)
            self.over = 0
        self.rows.append((row, None))
        return None


class Talks(unittest.TestCase):
    def talk(self, desk, *rows):
        """Says rows, each as a pair of the row and the answer due."""
        for row, answer in rows:
            self.assertEqual(desk.say(row), answer, row)


class Back(Talks):
    def test_turns_of_a_go(self):
        desk = desk_of(LOOP)
        stood = []
        for turns in range(9):
            other = desk_of(LOOP)
            other.say(f"go {turns}")
            stood.append(told(other))
        self.talk(desk, ("go 8", "turns"))
        for back in range(9):
            self.talk(desk, (f"back {back}", "done"))
            self.assertEqual(told(desk), stood[8 - back])
            self.talk(desk, (f"back {9 - back}", "refused noturn"))
            self.assertEqual(told(desk), stood[8 - back])
            self.talk(desk, (f"forth {back}", "done"), ("forth 1", "refused noturn"))
            self.assertEqual(told(desk), stood[8])

    def test_none_at_first(self):
        desk = desk_of(LOOP)
        self.talk(desk, ("back 1", "refused noturn"), ("forth 1", "refused noturn"), ("back 0", "done"),
            ("forth 0", "done"))
        self.talk(desk, ("poke 600 5", "done"), ("go 0", "turns"), ("back 1", "refused noturn"), ("look 600 1", "5"))

    def test_none_changes_nothing(self):
        desk = desk_of(LOOP)
        self.talk(desk, ("go 3", "turns"), ("poke 600 5", "done"), ("back 0", "done"), ("look 600 1", "5"))
        self.talk(desk, ("forth 0", "done"), ("back 2", "done"), ("back 0", "done"), ("forth 0", "done"),
            ("forth 2", "done"))
        self.talk(desk, ("look 600 1", "5"), ("turns", "3"))

    def test_rows_between_ahead_and_behind(self):
        desk = desk_of(LOOP)
        rows = "poke 600 1", "in", "poke 600 2", "mark 700 soft", "in", "poke 600 3", "go 1", "poke 600 4"
        for row in rows:
            self.assertNotIn("refused", desk.say(row))
        for back, word, pc in ((1, 3, 2), (2, 2, 1), (3, 1, 0)):
            self.talk(desk, (f"back {back}", "done"), ("look 600 1", str(word)), ("register pc", str(pc)))
            self.talk(desk, ("marks", "none" if back == 3 else "700 soft"), ("turns", str(3 - back)))
            self.talk(desk, (f"forth {back}", "done"), ("look 600 1", "4"), ("turns", "3"))
        self.talk(desk, ("back 3", "done"))
        for word in (2, 3, 4):
            self.talk(desk, ("forth 1", "done"), ("look 600 1", str(word)))
        self.talk(desk, ("forth 1", "refused noturn"), ("back 4", "refused noturn"), ("look 600 1", "4"))

    def test_all_that_the_probe_holds(self):
        desk = desk_of(BUSY, LINE)
        self.talk(desk, ("go 40 3 600", "turns; 0"))
        before = told(desk)
        rows = (
            "in", "mark 5 soft", "mark 6 hard", "watch 0 1 2 r", "keep", "fault bit 200 600 3", "fault bit 90 600 3",
            "erase 9", "poke 773 5", "set b 7", "go 30 2 5", "clear", "forget", "untrace", "uncount", "goback 0",
            "drop",
        )
        for row in rows:
            self.assertNotIn("refused", desk.say(row))
        behind = told(desk)
        turns = int(desk.say("turns")) - 40
        self.talk(desk, (f"back {turns}", "done"))
        self.assertEqual(told(desk), before)
        self.talk(desk, (f"forth {turns}", "done"))
        self.assertEqual(told(desk), behind)

    def test_what_would_have_been_peeked_is_not(self):
        desk = desk_of(LOOP)
        self.talk(desk, ("go 3 0 5 2 6 2 7", "turns; 65535 65535 65535"), ("register beat", "6"), ("peeked", "3"))
        for back, beat, peeked in ((1, 3, 1), (2, 2, 1), (3, 0, 0)):
            self.talk(desk, (f"back {back}", "done"), ("register beat", str(beat)), ("peeked", str(peeked)))
            self.talk(desk, (f"forth {back}", "done"), ("register beat", "6"), ("peeked", "3"))
        self.talk(desk, ("back 3", "done"), ("forth 1", "done"), ("register beat", "2"), ("peeked", "1"))
        self.talk(desk, ("forth 1", "done"), ("register beat", "3"), ("forth 1", "done"), ("register beat", "6"))

    def test_words_peeked_ahead_of_a_turn_not_come_to(self):
        desk = desk_of(LOOP)
        self.talk(desk, ("mark 2 hard", "done"), ("go 5 2 600", "mark 2; 0"), ("register beat", "3"))
        self.talk(desk, ("back 1", "done"), ("register beat", "1"), ("peeked", "0"))
        self.talk(desk, ("forth 1", "done"), ("register beat", "3"), ("peeked", "1"))
        self.talk(desk, ("in", "turns"), ("back 1", "done"), ("register beat", "3"), ("register pc", "2"))

    def test_steps_asleep_and_interrupts(self):
        line = [(beat, beat % 4) for beat in range(5, 900, 31)]
        desk = desk_of(BUSY, line)
        sorts = set()
        for row in ("go 8", "over 40", "in", "over 40", "out 40", "go 30", "go 30", "go 30", "over 9"):
            desk.say(row)
            sorts |= {row.split(" ")[1] for row in desk.say("trace").split("; ")}
        turns = int(desk.say("turns"))
        self.assertEqual(sorts, {"deed", "asleep", "interrupt"})
        behind = told(desk)
        for back in range(0, turns + 1, 3):
            self.talk(desk, (f"back {back}", "done"))
            plain = desk_of(BUSY, line)
            plain.say(f"go {turns - back}")
            self.assertEqual(board_stands(desk.plain()), board_stands(plain.plain()))
            for row in ("frames", "strays", "trace", "faded", "profile", "spent", "idle", "turns"):
                self.assertEqual(desk.say(row), plain.say(row), row)
            self.talk(desk, (f"forth {back}", "done"))
            self.assertEqual(told(desk), behind)


class Stops(Talks):
    def test_a_turn_at_which_the_board_stopped(self):
        desk = desk_of("lit 1\nlit 2\nmark")
        self.talk(desk, ("go 9", "mark 2"), ("turns", "2"), ("back 1", "done"), ("stop", "none"), ("register pc", "1"))
        self.talk(desk, ("forth 1", "done"), ("stop", "mark 2"), ("turns", "2"), ("back 2", "done"),
            ("forth 1", "done"))
        self.talk(desk, ("stop", "none"), ("register pc", "1"), ("forth 1", "done"), ("stop", "mark 2"))

    def test_set_going_again_by_pc(self):
        desk = desk_of("lit 1\nlit 2\nmark")
        self.talk(desk, ("go 9", "mark 2"), ("set pc 0", "done"), ("go 9", "mark 2"), ("in", "mark 2"), ("turns", "4"))
        for back, pc, stop in ((1, 1, "none"), (2, 0, "none"), (3, 1, "none"), (4, 0, "none")):
            self.talk(desk, (f"back {back}", "done"), ("register pc", str(pc)), ("stop", stop),
                ("turns", str(4 - back)))
            self.talk(desk, (f"forth {back}", "done"), ("register pc", "2"), ("stop", "mark 2"), ("turns", "4"))
        self.talk(desk, ("back 3", "done"), ("forth 1", "done"), ("register pc", "0"), ("stop", "none"))

    def test_power_that_takes_the_stop_away(self):
        desk = desk_of("lit 1\nlit 2\nlit 3\nmark")
        self.talk(
            desk, ("keep", "0"), ("go 2 0 5 0 5 0 5 0 5 0 5", "turns; 65535 65535 65535 65535 65535"), ("keep", "1"),
            ("goback 0", "done"), ("fault power 5", "done"), ("goback 1", "done"), ("set pc 300", "done"),
            ("turns", "2"),
            # Turn 0 stops and loses power, turns 1 to 3 go by, 4 stops.
            ("go 9 1 3 2 3", "mark 3; 0 0"), ("turns", "5"), ("met", "7 power 5"),
            ("trace", "5 deed 0; 6 deed 1; 8 deed 0; 10 deed 1; 11 deed 2"),
            ("back 3", "done"), ("met", "7 power 5"), ("register beat", "7"), ("peeked", "5"), ("register pc", "0"),
            ("back 1", "done"), ("met", "none"), ("forth 2", "done"), ("register beat", "9"), ("peeked", "6"),
        )

    def test_back_over_turns_behind_power_lost(self):
        desk = desk_of("lit 1\nlit 2\nlit 3\nmark")
        rows = "keep", "go 2 0 5 0 5 0 5 0 5 0 5", "keep", "goback 0", "fault power 7", "goback 1", "set pc 300"
        for row in rows:
            self.assertNotIn("refused", desk.say(row))
        before = told(desk)
        self.talk(desk, ("go 9", "mark 3"), ("turns", "5"), ("met", "7 power 7"), ("register pc", "3"))
        # Ahead of the first turn that counts behind it the stopped one is done.
        self.talk(desk, ("back 3", "done"), ("met", "7 power 7"), ("register pc", "0"), ("turns", "2"),
            ("stop", "none"))
        self.talk(desk, ("forth 1", "done"), ("register pc", "1"), ("back 2", "done"), ("turns", "1"), ("met", "none"))
        self.talk(desk, ("forth 1", "done"), ("met", "7 power 7"), ("register pc", "0"), ("turns", "2"))
        self.talk(desk, ("forth 3", "done"), ("stop", "mark 3"), ("turns", "5"), ("back 2", "done"),
            ("register pc", "1"))
        self.talk(desk, ("back 3", "done"), ("turns", "0"), ("back 1", "refused noturn"), ("forth 5", "done"))
        self.talk(desk, ("stop", "mark 3"), ("back 3", "done"), ("in", "turns"), ("forth 1", "refused noturn"))
        self.assertEqual(before[ASKS.index("turns")], "2")

    def test_a_stand_of_a_stopped_board(self):
        desk = desk_of("lit 1\nmark")
        self.talk(desk, ("go 5", "mark 1"), ("keep", "0"), ("set pc 0", "done"), ("in", "turns"), ("goback 0", "done"))
        self.talk(desk, ("stop", "mark 1"), ("back 1", "done"), ("stop", "none"), ("stands", "1"), ("forth 1", "done"))
        self.talk(desk, ("stop", "mark 1"), ("back 2", "done"), ("stands", "none"))


class Forth(Talks):
    def gone_back(self):
        desk = desk_of(LOOP)
        self.talk(desk, ("go 5", "turns"), ("poke 600 7", "done"), ("back 3", "done"))
        return desk

    def test_behind_rows_that_only_ask(self):
        desk = self.gone_back()
        told(desk)
        for row in ASKS:
            desk.say(row)
        self.talk(desk, ("forth 2", "done"), ("turns", "4"), ("forth 1", "done"), ("look 600 1", "7"))

    def test_behind_rows_that_are_refused(self):
        desk = self.gone_back()
        for row in ("poke 5 5", "what", "go 5 0 774", "out 5", "forth 4", "back 3", "set a no", "keep 1", "goback 9",
            "erase 16"):
            self.assertEqual(desk.say(row).split(" ")[0], "refused", row)
        self.talk(desk, ("forth 3", "done"), ("look 600 1", "7"), ("turns", "5"))

    def test_behind_rows_that_do(self):
        rows = (
            "poke 600 5", "set a 5", "mark 5 hard", "mark 700 soft", "clear", "watch 0 1 1 r", "forget", "untrace",
            "uncount",
            "erase 9", "write 40", "cut 0 0 1", "fault power 500", "drop", "go 0", "go 1", "in", "over 0", "over 9",
            "keep",
            "load", "write 40 5", "load 1025 1026 1027 12288",
        )
        for row in rows:
            desk = self.gone_back()
            self.assertNotIn("refused", desk.say(row))
            before = told(desk)
            turns = int(desk.say("turns"))
            self.talk(desk, ("forth 1", "refused noturn"), ("forth 0", "done"))
            self.assertEqual(told(desk), before)
            self.talk(desk, (f"back {turns}", "done"), (f"forth {turns}", "done"))
            self.assertEqual(told(desk), before, row)

    def test_behind_rows_that_undo(self):
        desk = desk_of(LOOP)
        for row in ("mark 700 soft", "watch 1 5 5 w", "keep", "fault bit 500 1 1", "go 5", "back 2", "unmark 700"):
            self.assertNotIn("refused", desk.say(row))
        self.talk(desk, ("forth 1", "refused noturn"), ("in", "turns"), ("back 1", "done"), ("unwatch 1", "done"))
        self.talk(desk, ("forth 1", "refused noturn"), ("in", "turns"), ("back 1", "done"), ("goback 0", "done"))
        self.talk(desk, ("forth 1", "refused noturn"))

    def test_a_new_way_behind_a_way_back(self):
        desk = self.gone_back()
        self.talk(desk, ("set pc 2", "done"), ("in", "turns"), ("register a", "3"), ("turns", "3"), ("back 1", "done"))
        self.talk(desk, ("register a", "2"), ("register pc", "2"), ("back 1", "done"), ("register a", "1"),
            ("turns", "1"))
        self.talk(desk, ("forth 2", "done"), ("register a", "3"), ("look 600 1", "0"), ("forth 1", "refused noturn"))

    def test_out_behind_a_way_back(self):
        desk = desk_of("call 3\nmark\nmark\nlit 2\nret")
        self.talk(desk, ("go 3", "turns"), ("back 1", "done"), ("out 9", "done"), ("forth 1", "refused noturn"),
            ("turns", "3"))


class Sums(Talks):
    def test_back_by_several_and_by_their_sum(self):
        for seed in range(25):
            chance = random.Random(seed)
            image = [some_word(chance) for _ in range(40)]
            line = some_line(chance)
            desk, other = Desk(image, line), Desk(image, line)
            for _ in range(12):
                row = some_row(chance, int(desk.say("register beat")))
                self.assertEqual(desk.say(row), other.say(row))
            turns = int(desk.say("turns"))
            before = told(desk)
            several = []
            while sum(several) < turns and len(several) < 5:
                several.append(chance.randrange(turns - sum(several) + 1))
                self.talk(desk, (f"back {several[-1]}", "done"))
            self.talk(other, (f"back {sum(several)}", "done"))
            self.assertEqual(told(desk), told(other))
            for many in several:
                self.talk(desk, (f"forth {many}", "done"))
            self.talk(other, (f"forth {sum(several)}", "done"))
            self.assertEqual(told(desk), before)
            self.assertEqual(told(other), before)


def some_row(chance, beat):
    """A row that does something, mostly."""
    address = chance.choice([chance.randrange(40), chance.randrange(512, 520), chance.randrange(768, 774)])
    near = chance.randrange(40)
    peeks = "".join(f" {chance.randrange(6)} {chance.randrange(774)}" for _ in range(chance.choice([0, 0, 1, 3])))
    return chance.choice([
        f"go {chance.randrange(9)}{peeks}", f"go {chance.randrange(20)}{peeks}", "in", f"over {chance.randrange(9)}",
        f"go {chance.randrange(9)}", f"go {chance.randrange(4)}", f"fault power {beat + chance.randrange(5)}",
        f"out {chance.randrange(9)}", f"poke {address} {chance.randrange(65536)}", f"set pc {near}", f"set a {near}",
        f"set lets {chance.choice(['yes', 'no'])}", f"mark {address} soft", f"mark {near} hard", f"unmark {near}",
        "clear",
        f"watch {chance.randrange(2)} 512 {chance.randrange(512, 774)} rw", "forget", "untrace", "uncount",
        f"fault bit {beat + chance.randrange(9)} {near} {chance.randrange(16)}",
        f"fault power {beat + chance.randrange(9)}",
        f"fault read {beat + chance.randrange(9)} {chance.randrange(1, 65536)}", "keep",
        f"goback {chance.randrange(3)}",
        f"erase {chance.randrange(1, 16)}", f"load {' '.join(['1029'] * chance.randrange(9))}".strip(),
    ])


class AgainstRowsDoneAgain(Talks):
    def test_talks(self):
        self.talks(range(60))

    def test_talks_in_which_probes_are_kept_each_few_units(self):
        for each in (1, 2, 5):
            with mock.patch("boardheld.course.KEPT_EACH", each):
                self.talks(range(60 + 20 * each, 80 + 20 * each))

    def test_talks_behind_power_that_takes_a_stop_away(self):
        image, line = typed("call 5\nlit 1\nput 600\ngo 0\nmark\nlit 2\npush\npop\nret\nlit 4\nmark")[0], []
        taken = 0
        for seed in range(40):
            chance = random.Random(seed)
            desk, again = Desk(image, line), Again(image, line)
            rows = [
                "keep", "go 5", "keep", "goback 0", f"fault power {chance.randrange(1, 9)}", "fault bit 5 9 12",
                "goback 1",
                "set pc 300", chance.choice(["in", "go 4", "go 6 0 5 1 5 2 5"]),
            ]
            for _ in range(12):
                rows.append(chance.choice(["in", "go 3", "go 2 1 600", "poke 600 5", "set pc 301", "over 3",
                    "mark 3 hard"]))
                rows.append(f"{chance.choice(['back', 'back', 'forth'])} {chance.randrange(1, 5)}")
            for row in rows:
                turns = desk.say("turns")
                answer, due = desk.say(row), again.say(row)
                self.assertEqual("refused" in answer, "refused" in (due or ""), (seed, row))
                taken += row == "in" and answer == "turns" and desk.say("turns") == turns
                for ask in ASKS:
                    self.assertEqual(desk.say(ask), asked_of(again.probe, ask), (seed, row, ask))
        self.assertGreater(taken, 5)

    def talks(self, seeds):
        done = {"back": 0, "forth": 0, "power": 0}
        for seed in seeds:
            chance = random.Random(seed)
            image = [some_word(chance) for _ in range(40)]
            line = some_line(chance)
            desk, again = Desk(list(image), list(line)), Again(image, line)
            for _ in range(30):
                turns = int(desk.say("turns"))
                row = some_row(chance, int(desk.say("register beat")))
                if chance.random() < 0.35:
                    row = f"back {chance.randrange(min(turns, 9) + 2)}"
                elif chance.random() < 0.4:
                    row = f"forth {chance.randrange(5)}"
                answer, due = desk.say(row), again.say(row)
                self.assertEqual("refused" in answer, "refused" in (due or ""), (seed, row))
                head = row.split(" ")[0]
                if head in ("back", "forth"):
                    self.assertEqual(answer, due)
                    done[head] += answer == "done" and row[-2:] != " 0"
                for ask in (*ASKS, "changed 0"):
                    self.assertEqual(desk.say(ask), asked_of(again.probe, ask), (seed, row, ask))
                done["power"] += "power" in desk.say("met")
            self.assertIsNone(replayed(image, line, desk.log()))
        self.assertGreater(min(done.values()), 2, done)


class Long(Talks):
    def test_many_turns_and_ways_back(self):
        desk = desk_of(BUSY, LINE)
        self.talk(desk, ("go 30000", "turns"))
        board = desk.plain()
        begun = time.monotonic()
        for back in (1, 1, 2, 499, 500, 501, 1, 12000, 1, 3):
            self.talk(desk, (f"back {back}", "done"))
        left = int(desk.say("turns"))
        self.assertEqual(left, 30000 - 13509)
        for forth in (1, 13000, 7, 501):
            self.talk(desk, (f"forth {forth}", "done"))
        self.assertEqual(board_stands(desk.plain()), board_stands(board))
        # A way back or forth is not to take all turns again from the first one.
        self.assertLess(time.monotonic() - begun, 10)
        other = desk_of(BUSY, LINE)
        other.say("go 16491")
        desk.say("back 13509")
        self.assertEqual(told(desk), told(other))
        desk.say("poke 600 5")
        other.say("poke 600 5")
        desk.say("go 2000")
        other.say("go 2000")
        self.assertEqual(told(desk), told(other))
        self.talk(desk, ("back 1999", "done"), ("back 1", "done"))
        self.talk(other, ("back 2000", "done"))
        self.assertEqual(told(desk), told(other))

    def test_many_rows(self):
        desk = desk_of(LOOP)
        for number in range(1500):
            self.talk(desk, ("in", "turns"), (f"poke 600 {number}", "done"))
        for back in (1, 300, 250, 600):
            self.talk(desk, (f"back {back}", "done"))
        self.talk(desk, ("look 600 1", "348"), ("turns", "349"), ("forth 1151", "done"), ("look 600 1", "1499"))


class Replayed(Talks):
    def test_logs_with_back_and_forth_in_them(self):
        for seed in range(30):
            chance = random.Random(seed)
            desk = Desk(typed(BUSY)[0], list(LINE))
            for _ in range(40):
                way = chance.random()
                row = some_row(chance, int(desk.say("register beat")))
                if way < 0.3:
                    row = f"back {chance.randrange(20)}"
                elif way < 0.5:
                    row = f"forth {chance.randrange(20)}"
                desk.say(row)
                desk.say(chance.choice(ASKS))
            log = desk.log()
            self.assertEqual(len(log), 120)
            self.assertIsNone(replayed(typed(BUSY)[0], list(LINE), log))
            number = chance.randrange(120)
            log[number] = (log[number][0], log[number][1] + "x")
            self.assertEqual(replayed(typed(BUSY)[0], list(LINE), log), number)

    def test_the_log_goes_on_behind(self):
        desk = desk_of(LOOP)
        rows = "go 3", "back 2", "turns", "forth 1", "back 5"
        answers = [desk.say(row) for row in rows]
        self.assertEqual(answers, ["turns", "done", "1", "done", "refused noturn"])
        self.assertEqual(desk.log(), list(zip(rows, answers)))

    def test_plain_behind_each(self):
        desk, probe = desk_of(BUSY, LINE), Probe(typed(BUSY)[0], list(LINE))
        stood = []
        for _ in range(50):
            stood.append(board_stands(probe.plain()))
            probe.go(1)
        desk.say("go 49")
        for turns in (48, 20, 0):
            self.talk(desk, (f"back {int(desk.say('turns')) - turns}", "done"))
            plain = desk.plain()
            self.assertEqual(board_stands(plain), stood[turns])
            plain.turn()
            self.assertEqual(board_stands(plain), stood[turns + 1])
            self.assertEqual(board_stands(desk.plain()), stood[turns])
        self.talk(desk, ("forth 49", "done"))
        self.assertEqual(board_stands(desk.plain()), stood[49])


if __name__ == "__main__":
    unittest.main()
