"""Points 36 and 37 (with 2 and 4): faults, and how they come."""

import random
import unittest
from unittest import mock

from boardheld.errors import BoardError, NoWord, TooMany
from boardheld.faults import drop_faults, go_back, keep, met_faults, put_fault, waiting_faults
from boardheld.listing import typed
from boardheld.probe import Probe
from boardheld.steps import frames_of, step_in, step_out, step_over, strays_of
from boardheld.traces import faded, idle, peeked, profile, spent, trace

from tests.test_held import Model, probe_stands, set_up

NO_NUMBERS = (True, False, None, "5", "", 5.0, [5], [], (5,), {}, b"5", object(), 1j, mock.ANY)
FULL = 65535
LOOP = "loop:\nlit 1\nlit 2\nlit 3\ngo loop"


def probe_of(text, line=()):
    return Probe(typed(text)[0], list(line))


def stands(probe):
    return probe_stands(probe) + [
        probe.turns(), probe.marks(), probe.wear(), probe.watches(), frames_of(probe), strays_of(probe), trace(probe),
        profile(probe), spent(probe), waiting_faults(probe), met_faults(probe),
    ]


class Refusing(unittest.TestCase):
    def refused(self, error, probe, fault):
        """What is refused so changes nothing."""
        before = stands(probe)
        with self.assertRaises(error) as caught:
            put_fault(probe, fault)
        self.assertIs(type(caught.exception), error, fault)
        self.assertEqual(error.__bases__, (BoardError,))
        self.assertEqual(stands(probe), before)


class Laid(Refusing):
    def test_each_sort_at_its_edges(self):
        faults = [
            ("bit", 1, 0, 0), ("bit", 1, 767, 15), ("bit", 1000000, 511, 7), ("read", 1, 1), ("read", 2, FULL),
            ("power", 1), ("power", 1000000), ("bit", 1, 512, 0),
        ]
        probe = Probe([], [])
        for fault in faults:
            self.assertIsNone(put_fault(probe, fault))
        self.assertEqual(sorted(waiting_faults(probe), key=faults.index), faults)
        self.assertEqual(met_faults(probe), [])
        self.assertEqual(probe.register_of("beat"), 0)

    def test_what_is_none(self):
        probe = Probe([], [])
        wrong = [
            *NO_NUMBERS, 5, "power", ("power",), (), ["power", 5], ("power", 5, 0), ("Power", 5), ("bit", 5),
            ("bit", 5, 1), ("bit", 5, 1, 1, 1), ("read", 5), ("read", 5, 1, 1), ("bits", 5, 1, 1), ("bit", 5, 768, 0),
            ("bit", 5, -1, 0), ("bit", 5, 5, 16), ("bit", 5, 5, -1), ("read", 5, 0), ("read", 5, 65536),
            ("read", 5, -1),
            ("bit", 0, 1, 1), ("bit", 1000001, 1, 1), ("read", 0, 1), ("read", 1000001, 1), ("power", 0), ("power", -1),
            ("power", 1000001), (5, 5), ("power", 10 ** 30), ("", 5), (b"power", 5), (5, "power"), {"power": 5},
            ("bit", 5, 773, 0), ["bit", 5, 1, 1],
        ]
        wrong += [("power", thing) for thing in NO_NUMBERS] + [(thing, 5) for thing in NO_NUMBERS]
        wrong += [("bit", thing, 1, 1) for thing in NO_NUMBERS] + [("bit", 5, thing, 1) for thing in NO_NUMBERS]
        wrong += [("bit", 5, 1, thing) for thing in NO_NUMBERS] + [("read", 5, thing) for thing in NO_NUMBERS]
        wrong += [("read", thing, 1) for thing in NO_NUMBERS] + [(thing, 5, 1, 1) for thing in NO_NUMBERS]
        for fault in wrong:
            self.refused(NoWord, probe, fault)

    def test_a_beat_come_to_already(self):
        probe = probe_of(LOOP)
        probe.go(5)
        for fault in (("power", 5), ("power", 4), ("bit", 5, 1, 1), ("bit", 1, 1, 1), ("read", 5, 1), ("read", 2, 1)):
            self.refused(NoWord, probe, fault)
        for fault in (("power", 6), ("bit", 6, 1, 1), ("read", 6, 1)):
            put_fault(probe, fault)

    def test_one_that_waits_already(self):
        probe = probe_of(LOOP)
        faults = [("power", 6), ("bit", 6, 1, 1), ("read", 6, 1)]
        for fault in faults:
            put_fault(probe, fault)
        for fault in faults:
            self.refused(NoWord, probe, fault)
        for fault in (("power", 7), ("bit", 6, 1, 2), ("bit", 6, 2, 1), ("bit", 7, 1, 1), ("read", 6, 2),
            ("read", 7, 1)):
            put_fault(probe, fault)
        self.assertEqual(len(waiting_faults(probe)), 9)

    def test_one_that_came_may_be_laid_up_again(self):
        probe = probe_of(LOOP)
        first = keep(probe)
        put_fault(probe, ("bit", 1, 600, 0))
        probe.go(1)
        go_back(probe, first)
        put_fault(probe, ("bit", 1, 600, 0))
        probe.go(1)
        self.assertEqual(met_faults(probe), [(1, ("bit", 1, 600, 0))] * 2)
        self.assertEqual(probe.look(600, 1), [1])

    def test_the_seventeenth(self):
        probe = Probe([], [])
        for bit in range(16):
            put_fault(probe, ("bit", 5, 600, bit))
        self.refused(TooMany, probe, ("bit", 5, 601, 0))
        self.refused(TooMany, probe, ("power", 3))
        self.refused(NoWord, probe, ("bit", 5, 600, 3))
        self.refused(NoWord, probe, ("power", 0))
        self.refused(NoWord, probe, None)
        probe.go(0)
        self.refused(TooMany, probe, ("power", 3))

    def test_room_again_behind_one_that_came(self):
        probe = probe_of(LOOP)
        for bit in range(16):
            put_fault(probe, ("bit", 5 + bit // 15, 600, bit))
        probe.go(5)
        self.assertEqual(waiting_faults(probe), [("bit", 6, 600, 15)])
        for bit in range(15):
            put_fault(probe, ("bit", 8, 600, bit))
        self.refused(TooMany, probe, ("power", 8))

    def test_waiting_are_told_by_their_beats(self):
        probe = Probe([], [])
        faults = [("power", 9), ("bit", 5, 1, 1), ("read", 9, 4), ("power", 5), ("read", 7, 1), ("bit", 5, 0, 0)]
        for fault in faults:
            put_fault(probe, fault)
        due = [faults[k] for k in (1, 3, 5, 4, 0, 2)]
        told = waiting_faults(probe)
        self.assertEqual(told, due)
        told.clear()
        met_faults(probe).append(5)
        self.assertEqual(waiting_faults(probe), due)
        self.assertEqual(met_faults(probe), [])

    def test_dropped(self):
        probe = probe_of(LOOP)
        self.assertIsNone(drop_faults(probe))
        for fault in (("power", 2), ("bit", 1, 600, 0), ("read", 3, 1), ("bit", 4, 600, 5)):
            put_fault(probe, fault)
        probe.go(1)
        drop_faults(probe)
        self.assertEqual(waiting_faults(probe), [])
        self.assertEqual(met_faults(probe), [(1, ("bit", 1, 600, 0))])
        probe.go(9)
        self.assertEqual(met_faults(probe), [(1, ("bit", 1, 600, 0))])
        put_fault(probe, ("power", 20))
        self.assertEqual(waiting_faults(probe), [("power", 20)])

    def test_by_name(self):
        probe = Probe([], [])
        self.assertIsNone(put_fault(fault=("power", 3), probe=probe))
        self.assertEqual((waiting_faults(probe=probe), met_faults(probe=probe)), ([("power", 3)], []))
        self.assertIsNone(drop_faults(probe=probe))


class Bits(unittest.TestCase):
    def test_in_flash_and_ram(self):
        probe = probe_of(LOOP)
        probe.poke(600, 6)
        for fault in (("bit", 3, 600, 1), ("bit", 3, 600, 15), ("bit", 3, 511, 0), ("bit", 4, 767, 3)):
            put_fault(probe, fault)
        probe.go(2)
        self.assertEqual((probe.look(600, 1), probe.look(511, 1)), ([6], [FULL]))
        probe.go(1)
        self.assertEqual((probe.look(600, 1), probe.look(511, 1)), ([4 + 32768], [FULL - 1]))
        self.assertEqual(probe.look(767, 1), [0])
        probe.go(1)
        self.assertEqual(probe.look(767, 1), [8])
        self.assertEqual(probe.wear(), [0] * 16)
        met = [(3, ("bit", 3, 600, 1)), (3, ("bit", 3, 600, 15)), (3, ("bit", 3, 511, 0)), (4, ("bit", 4, 767, 3))]
        self.assertEqual(met_faults(probe), met)
        self.assertEqual((waiting_faults(probe), probe.turns()), ([], 4))

    def test_turned_about_twice(self):
        probe = probe_of(LOOP)
        put_fault(probe, ("bit", 3, 600, 1))
        put_fault(probe, ("bit", 4, 600, 1))
        probe.go(3)
        self.assertEqual(probe.look(600, 1), [2])
        probe.go(1)
        self.assertEqual(probe.look(600, 1), [0])

    def test_own_word_of_a_swapped_one(self):
        for address in (3, 600):
            probe = probe_of(LOOP)
            own = probe.look(address, 1)[0]
            probe.mark(address, False)
            put_fault(probe, ("bit", 1, address, 4))
            probe.go(1)
            self.assertEqual(probe.look(address, 1), [own ^ 16])
            self.assertEqual(probe.marks(), [(address, "soft")])
            self.assertEqual(probe.plain().memory.word_at(address), own ^ 16)
            probe.unmark(address)
            self.assertEqual(probe.look(address, 1), [own ^ 16])

    def test_the_board_reads_nought_there_all_the_same(self):
        probe = probe_of("lit 5\nget 600\nget 600")
        probe.mark(600, False)
        put_fault(probe, ("bit", 1, 600, 4))
        probe.go(2)
        self.assertEqual(probe.register_of("a"), 0)
        probe.unmark(600)
        probe.go(1)
        self.assertEqual(probe.register_of("a"), 16)

    def test_a_deed_turned_about(self):
        # Behind its turn the word of go is another one: lit 0.
        probe = probe_of("lit 1\ngo 0")
        for bit in (10, 12, 13):
            put_fault(probe, ("bit", 3, 1, bit))
        probe.go(3)
        self.assertEqual(probe.look(1, 1), [1024])
        probe.go(1)
        self.assertEqual((probe.register_of("a"), probe.register_of("pc")), (0, 2))

    def test_behind_the_first_turn_that_is_late_enough(self):
        # Deeds of two beats: 3 is met behind the second one, at 4.
        probe = probe_of("\n".join(["put 600"] * 9))
        put_fault(probe, ("bit", 3, 700, 0))
        probe.go(1)
        self.assertEqual(met_faults(probe), [])
        probe.go(1)
        self.assertEqual(met_faults(probe), [(4, ("bit", 3, 700, 0))])

    def test_behind_turns_of_all_sorts(self):
        probe = probe_of("go 3\nmark\nsleep\nlet 1\nsleep")
        probe.poke(769, 5)
        probe.poke(771, 1)
        for beat in (2, 4, 9, 10):
            put_fault(probe, ("bit", beat, 700, beat))
        probe.go(4)
        self.assertEqual([row[0] for row in met_faults(probe)], [2, 4])
        self.assertEqual(probe.register_of("beat"), 4)
        probe.go(2)
        self.assertEqual(probe.register_of("beat"), 8)
        self.assertEqual([row[0] for row in trace(probe)], [0, 1, 2, 3, 4, 5])
        self.assertEqual([row[1] for row in trace(probe)][-2:], ["asleep", "interrupt"])
        probe.go(1)
        self.assertEqual(probe.stop_told(), ("mark", 1))
        self.assertEqual([row[0] for row in met_faults(probe)], [2, 4])

    def test_an_interrupt_s_beats(self):
        probe = probe_of("go 3\nlit 9\nlit 9\nlet 1\nsleep")
        probe.poke(769, 5)
        probe.poke(771, 1)
        put_fault(probe, ("bit", 6, 767, 15))
        probe.go(6)
        self.assertEqual(met_faults(probe), [(8, ("bit", 6, 767, 15))])
        self.assertEqual(probe.look(767, 1), [5 + 32768])


class Peeks(unittest.TestCase):
    def test_behind_a_word_peeked(self):
        probe = probe_of(LOOP)
        put_fault(probe, ("bit", 3, 600, 0))
        told = probe.go(2, [(1, 600), (1, 600), (1, 600), (0, 600)])
        self.assertEqual(told, (("turns",), [0, 0, 1, 1]))
        self.assertEqual(met_faults(probe), [(3, ("bit", 3, 600, 0))])

    def test_the_beat_is_the_peek_s(self):
        probe = probe_of(LOOP)
        put_fault(probe, ("bit", 2, 600, 0))
        put_fault(probe, ("bit", 3, 600, 1))
        put_fault(probe, ("bit", 4, 600, 2))
        told = probe.go(1, [(0, 600)] * 3)
        self.assertEqual(told, (("turns",), [0, 0, 1]))
        self.assertEqual([row[0] for row in met_faults(probe)], [2, 3, 4])
        self.assertEqual(probe.look(600, 1), [7])

    def test_power_lost_behind_a_peek(self):
        probe = probe_of(LOOP)
        probe.poke(600, 5)
        probe.mark(600, False)
        put_fault(probe, ("power", 3))
        told = probe.go(3, [(2, 600), (2, 600), (2, 0)])
        self.assertEqual(told, (("turns",), [5, 0, typed(LOOP)[0][0]]))
        self.assertEqual(met_faults(probe), [(3, ("power", 3))])
        self.assertEqual((probe.register_of("pc"), probe.register_of("beat")), (1, 6))
        self.assertEqual(probe.marks(), [])

    def test_a_mark_is_looked_for_behind_the_fault(self):
        probe = probe_of(LOOP)
        probe.mark(0, True)
        put_fault(probe, ("power", 2))
        self.assertEqual(probe.go(9, [(1, 600)]), (("mark", 0), [0]))
        self.assertEqual(probe.turns(), 1)

    def test_peeks_are_not_bent(self):
        probe = probe_of("lit 1\nlit 1\nget 600")
        put_fault(probe, ("read", 1, 5))
        self.assertEqual(probe.go(2, [(1, 600), (1, 601)]), (("turns",), [0, 0]))
        self.assertEqual(waiting_faults(probe), [("read", 1, 5)])
        probe.go(1)
        self.assertEqual(probe.register_of("a"), 5)


class Reads(unittest.TestCase):
    def bent(self, deed, mask=6, word=12, **registers):
        """A probe behind a deed of which the word read comes bent."""
        probe = probe_of(f"lit 1\n{deed}\n{deed}")
        probe.go(1)
        probe.poke(600, word)
        for name, thing in registers.items():
            probe.set_register(name, thing)
        drop_faults(probe)
        put_fault(probe, ("read", 2, mask))
        # A turn that begins ahead of the fault's beat leaves it.
        probe.go(1, [(0, 0)])
        return probe

    def test_each_deed_that_reads(self):
        cases = (
            ("get 600", {}, "a", 10), ("add 600", {"a": 5}, "a", 15), ("sub 600", {"a": 5}, "a", 65531),
            ("and 600", {"a": 3}, "a", 2), ("xor 600", {"a": 3}, "a", 9), ("getb 500", {"b": 100}, "a", 10),
            ("ret", {"sp": 599}, "pc", 10), ("pop", {"sp": 599}, "a", 10),
        )
        for deed, registers, name, due in cases:
            with self.subTest(deed=deed):
                probe = self.bent(deed, **registers)
                self.assertEqual(probe.register_of(name), due)
                self.assertEqual(probe.look(600, 1), [12])
                self.assertEqual(waiting_faults(probe), [])
                beat = probe.register_of("beat")
                self.assertEqual((beat, met_faults(probe)), (4, [(4, ("read", 2, 6))]))

    def test_of_back_the_first_one(self):
        for mask, zero in ((1, True), (2, False), (3, True)):
            probe = self.bent("back", mask, sp=599)
            self.assertEqual(probe.register_of("zero"), zero)
            self.assertEqual((probe.register_of("pc"), probe.register_of("sp")), (0, 601))

    def test_zero_is_of_the_word_as_it_came(self):
        probe = self.bent("get 600", 12)
        self.assertEqual((probe.register_of("a"), probe.register_of("zero")), (0, True))
        probe = self.bent("get 600", 1, 0)
        self.assertEqual((probe.register_of("a"), probe.register_of("zero")), (1, False))

    def test_each_bit(self):
        for mask in (1, 32768, FULL, 21845):
            probe = self.bent("get 600", mask, 4660)
            self.assertEqual(probe.register_of("a"), 4660 ^ mask)

    def test_deeds_that_read_nothing(self):
        deeds = "lit 5\nput 600\nputb 600\ntob\nswap\ngo 6\nifz 0\nifn 0\ncall 9\npush\nlet 0\nhalf\npush"
        probe = probe_of(deeds)
        put_fault(probe, ("read", 1, 1))
        probe.go(12)
        self.assertEqual(probe.turns(), 12)
        self.assertEqual(waiting_faults(probe), [("read", 1, 1)])

    def test_interrupts_and_sleep_read_nothing(self):
        probe = probe_of("go 3\nget 600\nmark\nlet 1\nsleep")
        probe.poke(769, 5)
        probe.poke(771, 1)
        put_fault(probe, ("read", 1, 1))
        probe.go(6)
        self.assertEqual(waiting_faults(probe), [("read", 1, 1)])
        probe.go(1)
        self.assertEqual((probe.register_of("a"), met_faults(probe)), (1, [(10, ("read", 1, 1))]))

    def test_in_a_turn_that_begins_at_its_beat_or_later(self):
        for beat, due in ((1, [0, 1, 1]), (2, [0, 1, 1]), (3, [0, 0, 1])):
            probe = probe_of("get 600\nadd 600\nadd 600")
            put_fault(probe, ("read", beat, 1))
            told = []
            for _ in range(3):
                probe.go(1)
                told.append(probe.register_of("a"))
            self.assertEqual(told, due)

    def test_one_in_a_turn(self):
        probe = probe_of("lit 0\nlit 0\nget 600\nget 600\nget 600\nget 600")
        for fault in (("read", 2, 4), ("read", 1, 1), ("read", 2, 8), ("read", 1, 2)):
            put_fault(probe, fault)
        told = []
        for _ in range(6):
            probe.go(1)
            told.append(probe.register_of("a"))
        self.assertEqual(told, [0, 0, 1, 2, 4, 8])
        met = [(4, ("read", 1, 1)), (6, ("read", 1, 2)), (8, ("read", 2, 4)), (10, ("read", 2, 8))]
        self.assertEqual(met_faults(probe), met)

    def test_it_goes_ahead_of_the_others_of_its_turn(self):
        probe = probe_of("lit 0\nlit 0\nget 600")
        for fault in (("bit", 3, 601, 0), ("power", 4), ("read", 2, 1), ("bit", 4, 602, 0)):
            put_fault(probe, fault)
        probe.go(3)
        due = [("read", 2, 1), ("bit", 3, 601, 0), ("power", 4), ("bit", 4, 602, 0)]
        self.assertEqual(met_faults(probe), [(4, fault) for fault in due])
        self.assertEqual((probe.look(601, 2), probe.register_of("a")), ([0, 1], 0))

    def test_a_deed_that_cannot_be_done_reads_nothing(self):
        probe = probe_of("lit 0\nlit 0\nget 774")
        put_fault(probe, ("read", 1, 1))
        self.assertEqual(probe.go(9)[0], ("far", 2, 774))
        self.assertEqual((waiting_faults(probe), met_faults(probe)), ([("read", 1, 1)], []))
        probe.set_register("pc", 0)
        probe.poke(600, 4)
        load = typed("get 600")[0][0]
        probe.poke(601, load)
        probe.set_register("pc", 601)
        probe.go(1)
        self.assertEqual(probe.register_of("a"), 5)

    def test_a_swapped_word_comes_as_nought_bent(self):
        probe = probe_of("lit 0\nget 600")
        probe.poke(600, 5)
        probe.mark(600, False)
        put_fault(probe, ("read", 1, 6))
        probe.go(2)
        self.assertEqual(probe.register_of("a"), 6)
        self.assertEqual(probe.look(600, 1), [5])

    def test_watches_and_profile_take_it_as_any_read(self):
        probe = probe_of("lit 0\nget 600\nlit 0")
        put_fault(probe, ("read", 1, 6))
        probe.watch(1, 600, 600, "r")
        self.assertEqual(probe.go(9)[0], ("watch", 1, 600, "r"))
        self.assertEqual(profile(probe), [(0, 1, 1), (1, 1, 2)])

    def test_twins_are_not_bent(self):
        probe = probe_of("lit 0\nget 600")
        put_fault(probe, ("read", 1, 6))
        probe.go(1)
        board = probe.plain()
        board.turn()
        self.assertEqual(board.registers["a"], 0)
        self.assertEqual(waiting_faults(probe), [("read", 1, 6)])


class Power(unittest.TestCase):
    BUSY = "call 3\nmark\nmark\nret\nlit 0"

    def lost(self, line=()):
        """A busy probe ahead of the last turn ahead of which it has power."""
        probe = probe_of("go 3\nmark\nmark\nlit 7\nput 773\nput 600\ntob\nlet 1\ncall 9\nlit 0\nret", line)
        for address, word in ((769, 900), (771, 1), (768, 5), (650, 9)):
            probe.poke(address, word)
        probe.go(7)
        self.assertEqual(probe.register_of("beat"), 10)
        return probe

    def test_what_is_as_at_first(self):
        probe = self.lost()
        probe.set_register("zero", True)
        put_fault(probe, ("power", 11))
        self.assertEqual(len(frames_of(probe)), 1)
        self.assertEqual(probe.go(1), (("turns",), []))
        names = ("a", "b", "pc", "sp", "zero", "lets", "asleep")
        self.assertEqual([probe.register_of(name) for name in names], [0, 0, 0, 767, False, False, False])
        self.assertEqual(probe.look(512, 262), [0] * 262)
        self.assertEqual((frames_of(probe), strays_of(probe)), ([], 0))

    def test_what_stays(self):
        line = [(5, 1), (8, 2), (11, 3), (12, 0), (14, 1)]
        probe = self.lost(line)
        flash = probe.look(0, 512)
        probe.mark(300, True)
        probe.mark(700, True)
        for address in (2, 301, 600, 767, 512):
            probe.mark(address, False)
        probe.watch(0, 1, 2, "r")
        put_fault(probe, ("bit", 30, 5, 5))
        put_fault(probe, ("power", 11))
        put_fault(probe, ("power", 31))
        keep(probe)
        told = profile(probe), trace(probe), spent(probe)
        self.assertEqual(probe.go(1), (("turns",), []))
        self.assertEqual((probe.register_of("beat"), probe.turns(), probe.look(0, 512)), (11, 8, flash))
        self.assertEqual(probe.out(), [(2, 7)])
        self.assertEqual(probe.marks(), [(2, "soft"), (300, "hard"), (301, "soft"), (700, "hard")])
        self.assertEqual(probe.watches(), [(1, 2, "r"), None])
        self.assertEqual((waiting_faults(probe), probe.wear()), ([("bit", 30, 5, 5), ("power", 31)], [0] * 16))
        self.assertEqual(met_faults(probe), [(11, ("power", 11))])
        self.assertEqual(trace(probe), told[1] + [(10, "deed", 9)])
        self.assertEqual(profile(probe), sorted(told[0] + [(9, 1, 1)]))
        self.assertEqual(spent(probe), [(-1, 10), (9, 1)])
        # The line comes on as it is: 12, then 14, at which bit 0 rises.
        self.assertEqual(probe.look(770, 3), [0, 0, 0])
        probe.unmark(2)
        probe.go(1, [(0, 772), (0, 772)])
        self.assertEqual(probe.look(770, 3), [2, 0, 1])

    def test_it_runs_on_as_a_new_board_does(self):
        probe = self.lost()
        put_fault(probe, ("power", 11))
        probe.go(1)
        for _ in range(7):
            step_in(probe)
        self.assertEqual(probe.out(), [(2, 7), (13, 7)])
        self.assertEqual((probe.register_of("b"), probe.look(600, 1)), (7, [7]))

    def test_strays_are_none(self):
        probe = probe_of("pop\nret\npop")
        probe.go(2)
        self.assertEqual(strays_of(probe), 1)
        put_fault(probe, ("power", 5))
        probe.go(1)
        self.assertEqual((strays_of(probe), frames_of(probe)), (0, []))

    def test_asleep_and_lets(self):
        probe = probe_of("let 1\nsleep")
        put_fault(probe, ("power", 4))
        probe.go(3)
        self.assertEqual((probe.register_of("asleep"), probe.register_of("lets")), (True, True))
        probe.go(1)
        self.assertEqual((probe.register_of("asleep"), probe.register_of("lets")), (False, False))
        self.assertEqual(trace(probe)[-1], (3, "asleep", 2))

    def test_soft_marks_in_ram_are_gone_and_may_be_set_again(self):
        probe = probe_of(LOOP)
        probe.mark(600, False)
        put_fault(probe, ("power", 1))
        probe.go(1)
        probe.mark(600, False)
        self.assertEqual(probe.marks(), [(600, "soft")])
        self.assertEqual(probe.look(600, 1), [0])


class Order(unittest.TestCase):
    def test_several_of_one_beat(self):
        for faults, due in (
            ([("power", 2), ("bit", 2, 600, 0)], 1), ([("bit", 2, 600, 0), ("power", 2)], 0),
            ([("bit", 3, 600, 0), ("power", 2)], 1), ([("power", 3), ("bit", 2, 600, 0)], 0),
        ):
            probe = probe_of("lit 1\nput 601")
            for fault in faults:
                put_fault(probe, fault)
            probe.go(2)
            self.assertEqual(probe.look(600, 1), [due])
            self.assertEqual(met_faults(probe), [(3, fault) for fault in sorted(faults, key=lambda row: row[1])])

    def test_several_beats(self):
        probe = probe_of("lit 1\nput 601")
        faults = [("bit", 3, 600, 0), ("bit", 2, 600, 1), ("bit", 3, 600, 2), ("bit", 1, 600, 3), ("bit", 2, 600, 4)]
        for fault in faults:
            put_fault(probe, fault)
        probe.go(2)
        due = [(1, faults[3]), (3, faults[1]), (3, faults[4]), (3, faults[0]), (3, faults[2])]
        self.assertEqual(met_faults(probe), due)


class Stopped(unittest.TestCase):
    def at_late_beat(self, text, faults):
        """A probe at beat 40 on whose board faults of beats it has passed wait; pc is 0."""
        probe = probe_of(text)
        probe.set_register("pc", 500)
        probe.go(1, [(0, 0)] * 40)
        probe.set_register("pc", 0)
        late = keep(probe)
        new = probe_of(text)
        early = keep(new)
        self.assertEqual(early, late)
        new.set_register("pc", 500)
        new.go(1, [(0, 0)] * 40)
        new.set_register("pc", 0)
        late = keep(new)
        go_back(new, early)
        for fault in faults:
            put_fault(new, fault)
        go_back(new, late)
        self.assertEqual(new.register_of("beat"), 40)
        return new

    def test_a_turn_in_which_the_board_is_stopped(self):
        probe = self.at_late_beat("mark", [("bit", 30, 600, 1), ("bit", 40, 601, 1), ("bit", 41, 602, 1)])
        self.assertEqual(probe.go(5), (("mark", 0), []))
        self.assertEqual(met_faults(probe), [(40, ("bit", 30, 600, 1)), (40, ("bit", 40, 601, 1))])
        self.assertEqual((probe.look(600, 3), probe.stop_told()), ([2, 2, 0], ("mark", 0)))
        self.assertEqual((probe.turns(), trace(probe)), (0, []))

    def test_a_board_that_is_stopped_already_takes_none(self):
        probe = self.at_late_beat("mark", [])
        self.assertEqual(probe.go(5)[0], ("mark", 0))
        stopped = keep(probe)
        go_back(probe, 0)
        put_fault(probe, ("bit", 30, 600, 1))
        put_fault(probe, ("power", 31))
        go_back(probe, stopped)
        for asked in (lambda: probe.go(5, [(0, 5), (1, 5)])[0], lambda: step_in(probe), lambda: step_over(probe, 3)):
            self.assertEqual(asked(), ("mark", 0))
            self.assertEqual(met_faults(probe), [])
        self.assertEqual(probe.register_of("beat"), 40)
        probe.set_register("pc", 0)
        self.assertEqual(probe.go(1), (("turns",), []))
        self.assertEqual(probe.look(600, 1), [0])
        self.assertEqual(len(met_faults(probe)), 2)

    def test_power_lost_in_the_turn_that_stops(self):
        # The stop is gone, and the board goes on in the same go: that turn is one of it, but isn't counted.
        probe = self.at_late_beat("lit 5\nlit 6\nlit 7", [("power", 30)])
        probe.set_register("pc", 300)
        self.assertEqual(probe.go(3, [(1, 5), (2, 6)]), (("turns",), probe.look(5, 2)))
        self.assertEqual((probe.register_of("pc"), probe.turns(), probe.register_of("a")), (2, 2, 6))
        self.assertEqual(trace(probe), [(41, "deed", 0), (43, "deed", 1)])
        self.assertIsNone(probe.stop_told())
        self.assertEqual(met_faults(probe), [(40, ("power", 30))])

    def test_a_mark_behind_it(self):
        probe = self.at_late_beat("lit 5", [("power", 30)])
        probe.set_register("pc", 300)
        probe.mark(0, True)
        self.assertEqual(probe.go(3), (("mark", 0), []))
        self.assertEqual(probe.turns(), 0)

    def test_a_step_of_it(self):
        probe = self.at_late_beat("lit 5", [("power", 30)])
        probe.set_register("pc", 300)
        self.assertEqual(step_in(probe), ("turns",))
        self.assertEqual((probe.stop_told(), probe.register_of("pc"), probe.turns()), (None, 0, 0))
        self.assertEqual(step_in(probe), ("turns",))
        self.assertEqual(probe.turns(), 1)

    def test_an_interrupt_that_stops(self):
        probe = self.at_late_beat("lit 5\nlit 6", [("power", 30), ("bit", 31, 600, 0)])
        probe.poke(769, 1)
        probe.poke(771, 1)
        probe.go(1, [])
        self.assertEqual(len(met_faults(probe)), 2)
        probe = self.at_late_beat("lit 5\nlit 6", [])
        probe.poke(769, 1)
        probe.poke(771, 1)
        probe.go(1)
        drop_faults(probe)
        probe.set_register("lets", True)
        probe.set_register("sp", 800)
        stopping = keep(probe)
        go_back(probe, 0)
        put_fault(probe, ("power", 30))
        put_fault(probe, ("bit", 31, 600, 0))
        go_back(probe, stopping)
        self.assertEqual(probe.go(1), (("turns",), []))
        self.assertEqual((probe.register_of("pc"), probe.look(600, 1), probe.turns()), (0, [1], 1))
        self.assertEqual(len(met_faults(probe)), 2)


class Causes(unittest.TestCase):
    def test_a_fault_holds_nothing(self):
        probe = probe_of(LOOP)
        for beat in range(1, 9):
            put_fault(probe, ("bit", beat, 600, 3))
        self.assertEqual(probe.go(8), (("turns",), []))
        self.assertEqual(len(met_faults(probe)), 8)

    def test_a_watch_met_in_the_turn(self):
        for fault in (("power", 3), ("bit", 3, 600, 3), ("read", 3, 4)):
            probe = probe_of("lit 1\nput 600\nlit 2")
            probe.watch(0, 600, 600, "w")
            put_fault(probe, fault)
            self.assertEqual(probe.go(9)[0], ("watch", 0, 600, "w"))
            self.assertEqual(probe.turns(), 2)

    def test_the_words_a_fault_changes_meet_no_watch(self):
        probe = probe_of(LOOP)
        probe.watch(0, 0, 773, "rw")
        put_fault(probe, ("bit", 2, 600, 3))
        put_fault(probe, ("power", 3))
        self.assertEqual(probe.go(5)[0], ("turns",))

    def test_a_mark_met_behind_it(self):
        probe = probe_of(LOOP)
        probe.mark(2, True)
        put_fault(probe, ("bit", 2, 600, 3))
        self.assertEqual(probe.go(9)[0], ("mark", 2))
        probe = probe_of(LOOP)
        probe.mark(0, True)
        put_fault(probe, ("power", 2))
        self.assertEqual(probe.go(9)[0], ("mark", 0))
        self.assertEqual(probe.turns(), 2)

    def test_a_mark_that_power_leads_away_from(self):
        probe = probe_of(LOOP)
        probe.mark(2, True)
        put_fault(probe, ("power", 2))
        self.assertEqual(probe.go(3)[0], ("turns",))
        self.assertEqual(probe.go(9)[0], ("mark", 2))

    def test_a_stop(self):
        probe = probe_of("lit 1\nmark")
        put_fault(probe, ("bit", 1, 600, 3))
        self.assertEqual(probe.go(9)[0], ("mark", 1))

    def test_the_end_of_a_step(self):
        probe = probe_of("call 3\nlit 1\nmark\nlit 2\nret")
        put_fault(probe, ("bit", 5, 600, 3))
        self.assertEqual(step_over(probe, 99), ("done",))
        self.assertEqual((probe.register_of("pc"), probe.look(600, 1)), (1, [8]))

    def test_a_step_at_which_power_is_lost(self):
        # No frame is open any more: over and out are at their ends.
        probe = probe_of("call 3\nlit 1\nmark\nlit 2\nlit 3\nret")
        put_fault(probe, ("power", 3))
        self.assertEqual(step_over(probe, 99), ("done",))
        self.assertEqual((probe.register_of("pc"), probe.register_of("beat")), (0, 3))
        probe = probe_of("call 3\nlit 1\nmark\nlit 2\nlit 3\nret")
        put_fault(probe, ("power", 4))
        probe.go(1)
        self.assertEqual(step_out(probe, 99), ("done",))
        self.assertEqual((probe.register_of("pc"), probe.register_of("beat")), (0, 4))

    def test_a_bent_way_back(self):
        probe = probe_of("call 3\nlit 1\nmark\nlit 2\nret")
        put_fault(probe, ("read", 3, 6))
        self.assertEqual(step_over(probe, 99), ("done",))
        self.assertEqual((probe.register_of("pc"), frames_of(probe), strays_of(probe)), (7, [], 0))
        self.assertEqual(spent(probe), [(-1, 2), (3, 3)])


class AgainstTheModel(unittest.TestCase):
    """Boards of many programs with faults, held against a model that takes them by itself."""

    def some_faults(self, chance, beat):
        faults = []
        for _ in range(chance.randrange(9)):
            at = beat + 1 + chance.randrange(60)
            sort = chance.choice(["bit", "bit", "read", "read", "power"])
            if sort == "bit":
                address = chance.choice([chance.randrange(40), chance.randrange(512, 520), chance.randrange(768)])
                faults.append(("bit", at, address, chance.randrange(16)))
            elif sort == "read":
                faults.append(("read", at, chance.randrange(1, 65536)))
            else:
                faults.append(("power", at))
        return [fault for k, fault in enumerate(faults) if fault not in faults[:k]]

    def take(self, model, waiting, met):
        """The faults that come to the model behind a turn or a peek."""
        beat = model.r["beat"]
        for fault in [fault for fault in sorted(waiting, key=lambda row: row[1]) if fault[1] <= beat]:
            if fault[0] == "read":
                continue
            waiting.remove(fault)
            met.append((beat, fault))
            if fault[0] == "bit":
                model.m[fault[2]] ^= 1 << fault[3]
            else:
                model.r.update(a=0, b=0, pc=0, sp=767, zero=False, lets=False, asleep=False)
                model.m[512:] = [0] * 262
                model.stop = None

    def turn(self, model, waiting, met):
        """A turn of the model: a word read by a deed comes bent."""
        reads = [row for row in sorted(waiting, key=lambda row: row[1]) if row[0] == "read"]
        reads = [row for row in reads if row[1] <= model.r["beat"]]
        done, came = model.do, []

        def bent(op, x, read, puts):
            if read and reads:
                came.append(reads[0])
                read = [read[0] ^ reads[0][2], *read[1:]]
            done(op, x, read, puts)

        model.do = bent
        sort = model.turn()
        model.do = done
        for fault in came:
            waiting.remove(fault)
            met.append((model.r["beat"], fault))
        self.take(model, waiting, met)
        return sort

    def test_boards_with_faults(self):
        sorts = {}
        for seed in range(250):
            chance = random.Random(seed)
            probe, model = set_up(chance, 1)
            self.assertIsInstance(model, Model)
            waiting, met = [], []
            for _ in range(12):
                if probe.stop_told() is None:
                    for fault in self.some_faults(chance, model.r["beat"])[:16 - len(waiting)]:
                        if fault not in waiting:
                            put_fault(probe, fault)
                            waiting.append(fault)
                most = chance.randrange(10)
                peeks = sorted([(chance.randrange(10), chance.randrange(774)) for _ in range(chance.randrange(3))])
                self.let_go(probe, model, waiting, met, (most, peeks))
                self.assertEqual(probe_stands(probe), model.stands(), seed)
                self.assertEqual(met_faults(probe), met, seed)
                self.assertEqual(waiting_faults(probe), sorted(waiting, key=lambda row: row[1]))
                self.assertEqual(sum(row[1] for row in spent(probe)), probe.register_of("beat"))
            for _, fault in met:
                sorts[fault[0]] = sorts.get(fault[0], 0) + 1
        self.assertEqual(sorted(sorts), ["bit", "power", "read"])
        self.assertGreater(min(sorts.values()), 100)

    def let_go(self, probe, model, waiting, met, asked):
        """The same go by both."""
        most, peeks = asked
        cause, words = ("turns",), []
        if most and model.stop is not None:
            cause = model.stop
        else:
            for number in range(most):
                for address in [row[1] for row in peeks if row[0] == number]:
                    words.append(model.m[address])
                    model.beats(1)
                    self.take(model, waiting, met)
                self.turn(model, waiting, met)
                if model.stop is not None:
                    cause = model.stop
                    break
        self.assertEqual(probe.go(most, peeks), (cause, words))

    def test_nothing_that_waits_changes_a_board_ahead_of_its_beat(self):
        for seed in range(30):
            chance = random.Random(seed)
            probe, model = set_up(chance, 1)
            for beat in range(1000, 1005):
                put_fault(probe, ("power", beat))
                put_fault(probe, ("read", beat, 7))
            for _ in range(60):
                probe.go(1)
                model.turn()
                self.assertEqual(probe_stands(probe), model.stands())
            self.assertEqual((met_faults(probe), len(waiting_faults(probe))), ([], 10))
            self.assertEqual((faded(probe), peeked(probe)), (max(0, probe.turns() - 32), 0))
            self.assertGreaterEqual(idle(probe), 0)


if __name__ == "__main__":
    unittest.main()
