"""Point 38 (with 2 and 4): stands that are kept, and gone back to."""

import random
import unittest
from unittest import mock

from boardheld.errors import BoardError, NoWord, TooMany
from boardheld.faults import go_back, keep, kept_beats, met_faults, put_fault, unlike_words, waiting_faults
from boardheld.listing import typed
from boardheld.probe import Probe
from boardheld.programming import erase, load, write
from boardheld.steps import forget_frames, frames_of, step_in, step_over, strays_of
from boardheld.traces import clear_counts, clear_trace, faded, idle, peeked, profile, spent, trace

from tests.test_held import BUSY, board_stands, probe_stands, set_up

NO_NUMBERS = (True, False, None, "5", "", 5.0, [5], [], (5,), {}, b"5", object(), 1j, mock.ANY)
LINE = [(beat, beat % 4) for beat in range(3, 900, 7)]


def comes_back(probe):
    """All of a probe that a stand brings back."""
    return probe_stands(probe) + [frames_of(probe), strays_of(probe)]


def stays(probe):
    """All of a probe that stays as it is when a stand is gone back to."""
    return [
        probe.turns(), probe.marks(), probe.wear(), probe.watches(), trace(probe), faded(probe), profile(probe),
        spent(probe), idle(probe), peeked(probe), waiting_faults(probe), met_faults(probe), kept_beats(probe),
    ]


class Kept(unittest.TestCase):
    def test_numbers_and_beats(self):
        probe = Probe(typed(BUSY)[0], list(LINE))
        self.assertEqual(kept_beats(probe), [])
        beats = []
        for number in range(16):
            beats.append(probe.register_of("beat"))
            self.assertEqual(keep(probe), number)
            self.assertEqual(kept_beats(probe), beats)
            probe.go(number)
        before = comes_back(probe), stays(probe)
        with self.assertRaises(TooMany) as caught:
            keep(probe)
        self.assertEqual(type(caught.exception).__bases__, (BoardError,))
        self.assertEqual((comes_back(probe), stays(probe)), before)
        kept_beats(probe).append(5)
        go_back(probe, 3)
        self.assertEqual(kept_beats(probe), beats)
        with self.assertRaises(TooMany):
            keep(probe)

    def test_what_is_kept_changes_nothing(self):
        probe = Probe(typed(BUSY)[0], list(LINE))
        probe.go(100)
        before = comes_back(probe), stays(probe)[:-1]
        keep(probe)
        self.assertEqual((comes_back(probe), stays(probe)[:-1]), before)

    def test_numbers_that_no_stand_has(self):
        probe = Probe(typed(BUSY)[0], list(LINE))
        for many in range(3):
            probe.go(50)
            before = comes_back(probe), stays(probe)
            for number in (*NO_NUMBERS, -1, many, many + 1, 16, 10 ** 30):
                for asked in (go_back, unlike_words):
                    with self.assertRaises(NoWord) as caught:
                        asked(probe, number)
                    self.assertEqual(type(caught.exception).__bases__, (BoardError,))
            self.assertEqual((comes_back(probe), stays(probe)), before)
            keep(probe)

    def test_by_names(self):
        probe = Probe([], [])
        self.assertEqual(keep(probe=probe), 0)
        self.assertIsNone(go_back(number=0, probe=probe))
        self.assertEqual((kept_beats(probe=probe), unlike_words(number=0, probe=probe)), ([0], []))


class GoneBack(unittest.TestCase):
    def test_in_any_order_again_and_again(self):
        probe = Probe(typed(BUSY)[0], list(LINE))
        stood = []
        for _ in range(16):
            keep(probe)
            stood.append(comes_back(probe))
            probe.go(13)
        chance = random.Random(1)
        for _ in range(60):
            number = chance.randrange(16)
            self.assertIsNone(go_back(probe, number))
            self.assertEqual(comes_back(probe), stood[number])
            self.assertEqual(board_stands(probe.plain()), stood[number][:4])
            probe.go(chance.randrange(40))

    def test_it_goes_on_from_there_as_it_did(self):
        for seed in range(60):
            chance = random.Random(seed)
            probe = set_up(chance, seed)[0]
            probe.go(chance.randrange(60))
            keep(probe)
            stood = []
            for _ in range(60):
                stood.append(comes_back(probe))
                step_in(probe)
            go_back(probe, 0)
            for due in stood:
                self.assertEqual(comes_back(probe), due)
                step_in(probe)

    def test_the_line_to_come(self):
        line = [(2, 1), (4, 2), (5, 3), (7, 0)]
        probe = Probe(typed("loop:\nlit 1\ngo loop")[0], line)
        keep(probe)
        probe.go(4)
        keep(probe)
        probe.go(9)
        for number, due in ((0, [0, 0, 1, 1, 2, 3, 3, 0, 0]), (1, [2, 3, 3, 0, 0])):
            go_back(probe, number)
            told = []
            for _ in due:
                told += probe.look(772, 1)
                probe.go(1)
            self.assertEqual(told, due)

    def test_a_stop(self):
        probe = Probe(typed("lit 5\nmark")[0], [])
        keep(probe)
        probe.go(9)
        keep(probe)
        go_back(probe, 0)
        self.assertEqual((probe.stop_told(), probe.register_of("pc")), (None, 0))
        self.assertEqual(probe.go(1), (("turns",), []))
        go_back(probe, 1)
        self.assertEqual(probe.stop_told(), ("mark", 1))
        self.assertEqual(probe.go(9), (("mark", 1), []))
        self.assertEqual(probe.turns(), 2)

    def test_what_was_sent(self):
        probe = Probe(typed("lit 5\nput 773\nput 773\nlit 5")[0], [])
        keep(probe)
        probe.go(2)
        keep(probe)
        probe.go(1)
        probe.poke(773, 9)
        self.assertEqual(probe.out(), [(1, 5), (3, 5), (5, 9)])
        go_back(probe, 0)
        self.assertEqual((probe.out(), probe.look(773, 1)), ([], [0]))
        probe.poke(773, 8)
        go_back(probe, 1)
        self.assertEqual((probe.out(), probe.look(773, 1)), ([(1, 5)], [5]))

    def test_registers_and_truths(self):
        probe = Probe([], [])
        things = {"a": 1, "b": 2, "pc": 3, "sp": 4, "zero": True, "lets": True, "asleep": True}
        for name, thing in things.items():
            probe.set_register(name, thing)
        keep(probe)
        for name, thing in things.items():
            probe.set_register(name, not thing if isinstance(thing, bool) else 9)
        go_back(probe, 0)
        self.assertEqual({name: probe.register_of(name) for name in things}, things)

    def test_frames_and_strays(self):
        probe = Probe(typed("call 3\nmark\nmark\ncall 4\nlit 5\nret\nret\nret")[0], [])
        probe.go(2)
        keep(probe)
        probe.go(4)
        keep(probe)
        self.assertEqual((frames_of(probe), strays_of(probe)), ([], 0))
        probe.set_register("pc", 5)
        probe.set_register("sp", 700)
        probe.poke(701, 5)
        probe.go(1)
        self.assertEqual(strays_of(probe), 1)
        keep(probe)
        go_back(probe, 0)
        self.assertEqual((frames_of(probe), strays_of(probe)), ([(0, 3, "call"), (3, 4, "call")], 0))
        step_in(probe)
        step_in(probe)
        self.assertEqual(frames_of(probe), [(0, 3, "call")])
        forget_frames(probe)
        go_back(probe, 2)
        self.assertEqual((frames_of(probe), strays_of(probe)), ([], 1))
        go_back(probe, 0)
        self.assertEqual((frames_of(probe), strays_of(probe)), ([(0, 3, "call"), (3, 4, "call")], 0))
        frames_of(probe).append(5)
        go_back(probe, 0)
        self.assertEqual(len(frames_of(probe)), 2)

    def test_what_stays(self):
        probe = Probe(typed(BUSY)[0], list(LINE))
        keep(probe)
        probe.go(70, [(5, 600), (60, 3)])
        put_fault(probe, ("bit", 160, 700, 3))
        put_fault(probe, ("power", 900))
        probe.go(30)
        probe.mark(3, True)
        probe.mark(700, False)
        probe.mark(9, False)
        probe.mark(10, False)
        probe.unmark(10)
        probe.watch(1, 5, 6, "rw")
        erase(probe, 15)
        keep(probe)
        before = stays(probe)
        for number in (0, 1, 0):
            go_back(probe, number)
            self.assertEqual(stays(probe), before)
        probe.go(1)
        self.assertEqual(probe.turns(), 101)
        clear_counts(probe)
        clear_trace(probe)
        go_back(probe, 1)
        self.assertEqual((trace(probe), profile(probe), spent(probe)), ([], [], []))

    def test_soft_marks_over_the_words_that_come_back(self):
        probe = Probe(typed("lit 1\nlit 2\nput 600\nget 600\nlit 3")[0], [])
        keep(probe)
        probe.mark(1, False)
        keep(probe)
        probe.go(1)
        go_back(probe, 0)
        self.assertEqual(probe.marks(), [(1, "soft")])
        self.assertEqual(probe.look(0, 2), typed("lit 1\nlit 2")[0])
        self.assertEqual(probe.go(9)[0], ("mark", 1))
        # A mark that is gone since stays gone.
        probe.unmark(1)
        go_back(probe, 1)
        self.assertEqual((probe.marks(), probe.look(1, 1)), ([], typed("lit 2")[0]))
        self.assertEqual(probe.go(4)[0], ("turns",))
        # In ram the board reads 0 at the mark, whatever word comes back.
        keep(probe)
        go_back(probe, 0)
        probe.mark(600, False)
        go_back(probe, 2)
        self.assertEqual((probe.look(600, 1), probe.register_of("a")), ([2], 2))
        probe.set_register("pc", 3)
        probe.go(1)
        self.assertEqual(probe.register_of("a"), 0)
        self.assertEqual((probe.marks(), probe.wear()), ([(600, "soft")], [1] + [0] * 15))

    def test_flash_comes_back_without_wear(self):
        probe = Probe([1, 2, 3], [])
        keep(probe)
        load(probe, [0, 2, 3])
        keep(probe)
        write(probe, 40, [5])
        go_back(probe, 0)
        self.assertEqual((probe.look(0, 41), probe.wear()), ([1, 2, 3] + [65535] * 38, [0] * 16))
        go_back(probe, 1)
        self.assertEqual((probe.look(0, 41), probe.wear()), ([0, 2, 3] + [65535] * 38, [0] * 16))

    def test_a_stand_stays_as_it_was_kept(self):
        probe = Probe(typed(BUSY)[0], list(LINE))
        probe.go(77)
        keep(probe)
        due = comes_back(probe)
        for _ in range(3):
            go_back(probe, 0)
            self.assertEqual(comes_back(probe), due)
            step_over(probe, 9)
            probe.poke(600, 77)
            probe.poke(773, 9)
            probe.set_register("a", 5)
            forget_frames(probe)
            erase(probe, 3)
            put_fault(probe, ("power", 1000))
            probe.go(900)
            self.assertEqual(waiting_faults(probe), [])


class Faults(unittest.TestCase):
    def test_faults_come_behind_a_stand_gone_back_to(self):
        probe = Probe(typed("loop:\nlit 1\ngo loop")[0], [])
        first = keep(probe)
        probe.go(20)
        later = keep(probe)
        go_back(probe, first)
        put_fault(probe, ("bit", 5, 600, 1))
        go_back(probe, later)
        self.assertEqual(waiting_faults(probe), [("bit", 5, 600, 1)])
        probe.go(1)
        self.assertEqual(met_faults(probe), [(21, ("bit", 5, 600, 1))])
        go_back(probe, first)
        probe.go(9)
        self.assertEqual((probe.look(600, 1), met_faults(probe)), ([0], [(21, ("bit", 5, 600, 1))]))

    def test_what_a_fault_did_is_gone_with_it(self):
        probe = Probe(typed("loop:\nlit 1\ngo loop")[0], [])
        probe.mark(700, False)
        keep(probe)
        due = comes_back(probe)
        put_fault(probe, ("bit", 2, 0, 1))
        put_fault(probe, ("power", 3))
        probe.go(5)
        go_back(probe, 0)
        self.assertEqual(comes_back(probe), due)
        # The soft mark that went with the power stays gone.
        self.assertEqual(probe.marks(), [])

    def test_the_read_of_a_turn_that_begins_late_enough(self):
        probe = Probe(typed("loop:\nget 600\ngo loop")[0], [])
        keep(probe)
        probe.go(9)
        keep(probe)
        go_back(probe, 0)
        put_fault(probe, ("read", 4, 9))
        go_back(probe, 1)
        go_back(probe, 0)
        probe.go(1)
        self.assertEqual(probe.register_of("a"), 0)
        probe.go(1)
        go_back(probe, 1)
        probe.go(2)
        self.assertEqual((probe.register_of("a"), len(met_faults(probe))), (9, 1))


class Unlike(unittest.TestCase):
    def test_none(self):
        probe = Probe(typed(BUSY)[0], list(LINE))
        keep(probe)
        self.assertEqual(unlike_words(probe, 0), [])
        probe.mark(600, False)
        probe.mark(3, False)
        self.assertEqual(unlike_words(probe, 0), [])

    def test_everywhere(self):
        probe = Probe([1, 2], [])
        for address in (512, 767, 768, 773):
            probe.poke(address, 9)
        keep(probe)
        write(probe, 0, [0])
        write(probe, 511, [7])
        for address in (512, 600, 767, 768, 771, 773):
            probe.poke(address, 8)
        due = [(0, 1, 0), (511, 65535, 7), (512, 9, 8), (600, 0, 8), (767, 9, 8), (768, 9, 8), (771, 0, 8), (773, 9, 8)]
        self.assertEqual(unlike_words(probe, 0), due)
        unlike_words(probe, 0).clear()
        self.assertEqual(unlike_words(probe, 0), due)
        keep(probe)
        self.assertEqual(unlike_words(probe, 1), [])
        go_back(probe, 0)
        self.assertEqual(unlike_words(probe, 1), [(address, now, was) for address, was, now in due])
        self.assertEqual(unlike_words(probe, 0), [])

    def test_own_words(self):
        probe = Probe(typed("lit 5\nput 600\nlit 6")[0], [])
        probe.mark(600, False)
        keep(probe)
        probe.poke(600, 4)
        self.assertEqual(unlike_words(probe, 0), [(600, 0, 4)])
        probe.go(2)
        self.assertEqual(unlike_words(probe, 0), [(600, 0, 5)])
        put_fault(probe, ("bit", 4, 2, 0))
        probe.go(1)
        self.assertEqual(unlike_words(probe, 0), [(2, 1030, 1031), (600, 0, 5)])

    def test_against_looks(self):
        for seed in range(30):
            chance = random.Random(seed)
            probe = set_up(chance, seed)[0]
            keep(probe)
            was = probe.look(0, 774)
            probe.go(chance.randrange(90))
            now = probe.look(0, 774)
            due = [(at, was[at], now[at]) for at in range(774) if was[at] != now[at]]
            self.assertEqual(unlike_words(probe, 0), due)


if __name__ == "__main__":
    unittest.main()
