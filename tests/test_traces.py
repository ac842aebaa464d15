"""Points 29 to 31: the last turns, and the counts of beats."""

import unittest

from boardheld.listing import typed
from boardheld.probe import Probe
from boardheld.steps import forget_frames, step_in, step_over, strays_of, frames_of
from boardheld.traces import clear_counts, clear_trace, faded, idle, peeked, profile, spent, trace


def probe_of(text, line=()):
    return Probe(typed(text)[0], list(line))


def timed(text, beats):
    """A probe whose timer calls first behind so many beats, and then long not."""
    probe = probe_of(text)
    probe.poke(771, 1)
    probe.poke(769, 10000)
    probe.poke(768, 10000 - beats)
    probe.set_register("lets", True)
    return probe


class Trace(unittest.TestCase):
    """Point 29."""

    def test_none_at_first(self):
        probe = probe_of("lit 1")
        self.assertEqual((trace(probe), faded(probe)), ([], 0))

    def test_each_sort(self):
        probe = timed("lit 1\nlit 2\nback\nat 10\nget 600\nsleep\nlit 3", 5)
        probe.set_register("pc", 10)
        probe.go(5)
        told = [(0, "deed", 10), (2, "deed", 11), (3, "asleep", 12), (4, "asleep", 12), (5, "interrupt", 12)]
        self.assertEqual(trace(probe), told)
        self.assertIs(type(trace(probe)[0]), tuple)
        probe.go(2)
        self.assertEqual(trace(probe), [*told, (8, "deed", 1), (9, "deed", 2)])
        self.assertEqual(faded(probe), 0)

    def test_last_32(self):
        probe = probe_of("go 1\ngo 0")
        for turns in range(1, 70):
            probe.go(1)
            told = [(beat, "deed", beat % 2) for beat in range(max(0, turns - 32), turns)]
            self.assertEqual((trace(probe), faded(probe)), (told, max(0, turns - 32)))

    def test_in_one_go(self):
        probe = probe_of("go 1\ngo 0")
        probe.go(1000)
        self.assertEqual(trace(probe), [(beat, "deed", beat % 2) for beat in range(968, 1000)])
        self.assertEqual(faded(probe), 968)

    def test_turn_at_which_it_is_stopped_is_none(self):
        probe = probe_of("lit 1\nmark")
        probe.go(9)
        probe.go(9)
        self.assertEqual((trace(probe), faded(probe)), ([(0, "deed", 0)], 0))

    def test_an_interrupt_that_can_not_begin_is_none(self):
        probe = timed("lit 1", 1)
        probe.set_register("sp", 5)
        probe.go(9)
        self.assertEqual(trace(probe), [(0, "deed", 0)])

    def test_begins_behind_its_peeks(self):
        probe = probe_of("lit 1\nlit 2")
        probe.go(2, [(0, 0), (1, 0), (1, 0)])
        self.assertEqual(trace(probe), [(1, "deed", 0), (4, "deed", 1)])

    def test_by_steps_too(self):
        probe = probe_of("call 1\nlit 1\nret")
        step_in(probe)
        step_over(probe, 5)
        self.assertEqual(trace(probe), [(0, "deed", 0), (2, "deed", 1)])

    def test_clear(self):
        probe = probe_of("go 0")
        probe.go(40)
        self.assertEqual(faded(probe), 8)
        self.assertIsNone(clear_trace(probe))
        self.assertEqual((trace(probe), faded(probe), probe.turns()), ([], 0, 40))
        probe.go(1)
        self.assertEqual((trace(probe), faded(probe)), ([(40, "deed", 0)], 0))
        clear_trace(probe=probe)
        self.assertEqual((trace(probe=probe), faded(probe=probe)), ([], 0))

    def test_clear_when_less_went_by(self):
        probe = probe_of("go 0")
        probe.go(3)
        clear_trace(probe)
        probe.go(33)
        self.assertEqual((len(trace(probe)), faded(probe)), (32, 1))
        self.assertEqual(trace(probe)[0], (4, "deed", 0))

    def test_own_list(self):
        probe = probe_of("go 0")
        probe.go(2)
        told = trace(probe)
        told.clear()
        self.assertEqual(len(trace(probe)), 2)
        told = trace(probe)
        probe.go(1)
        self.assertEqual(len(told), 2)


class Counts(unittest.TestCase):
    """Point 30."""

    def test_none_at_first(self):
        probe = probe_of("lit 1")
        self.assertEqual((profile(probe), spent(probe), idle(probe), peeked(probe)), ([], [], 0, 0))

    def test_profile(self):
        probe = probe_of("loop:\nget 600\nlit 3\npush\npop\ngo loop")
        probe.go(8)
        self.assertEqual(profile(probe), [(0, 2, 4), (1, 2, 2), (2, 2, 4), (3, 1, 2), (4, 1, 1)])
        self.assertIs(type(profile(probe)[0]), tuple)

    def test_profile_rises(self):
        probe = probe_of("go 300\nat 200\ngo 600\nat 300\ngo 200")
        probe.poke(600, 12288)
        probe.go(4)
        self.assertEqual([row[0] for row in profile(probe)], [0, 200, 300, 600])

    def test_deed_that_is_not_done_does_not_count(self):
        probe = probe_of("lit 1\nput 0")
        probe.go(9)
        self.assertEqual(profile(probe), [(0, 1, 1)])

    def test_spent_outside_of_frames(self):
        probe = probe_of("lit 1\nget 600")
        probe.go(2)
        self.assertEqual(spent(probe), [(-1, 3)])
        self.assertIs(type(spent(probe)[0]), tuple)

    def test_spent_in_calls(self):
        probe = probe_of("call 10\nlit 1\nmark\nat 10\nlit 2\ncall 20\nret\nat 20\nlit 3\nget 600\nret")
        probe.go(99)
        # A call's beats and a ret's belong to the frame in which they are done.
        self.assertEqual(spent(probe), [(-1, 2 + 1), (10, 1 + 2 + 2), (20, 1 + 2 + 2)])
        self.assertEqual(probe.register_of("beat"), 13)

    def test_just_the_addresses_in_whose_frames_a_beat_went_by(self):
        probe = probe_of("call 10\nat 10\nmark")
        probe.go(99)
        self.assertEqual(spent(probe), [(-1, 2)])

    def test_frames_that_lead_to_one_address_count_together(self):
        probe = probe_of("call 10\ncall 10\nmark\nat 10\nret")
        probe.go(99)
        self.assertEqual(spent(probe), [(-1, 4), (10, 4)])

    def test_spent_in_interrupts(self):
        probe = timed("lit 1\nlit 2\nat 10\nlit 3\nlit 4\nmark", 1)
        probe.set_register("pc", 10)
        probe.go(3)
        # Its three beats belong to its own frame.
        self.assertEqual(spent(probe), [(-1, 1), (1, 3 + 1)])
        self.assertEqual(profile(probe), [(1, 1, 1), (10, 1, 1)])

    def test_a_back_belongs_to_the_frame_in_which_it_is_done(self):
        probe = timed("go 5\ngo 6\nat 5\nlit 3\nback", 1)
        probe.go(4)
        self.assertEqual(frames_of(probe), [])
        self.assertEqual(spent(probe), [(-1, 1), (1, 3 + 1 + 3)])

    def test_interrupt_by_the_line(self):
        probe = probe_of("lit 1\nlit 2\nlit 3", [(1, 1)])
        probe.poke(771, 2)
        probe.set_register("lets", True)
        probe.go(3)
        self.assertEqual(spent(probe), [(-1, 1), (2, 3 + 1)])

    def test_idle(self):
        probe = probe_of("sleep")
        probe.go(8)
        self.assertEqual((idle(probe), profile(probe), spent(probe)), (7, [(0, 1, 1)], [(-1, 8)]))

    def test_idle_in_a_frame(self):
        probe = probe_of("call 5\nat 5\nsleep")
        probe.go(6, [(1, 0), (3, 0), (3, 0)])
        self.assertEqual((idle(probe), peeked(probe)), (4, 3))
        self.assertEqual(spent(probe), [(-1, 2), (5, 1 + 4 + 3)])

    def test_peeks_asleep_are_not_idle(self):
        probe = probe_of("sleep")
        probe.go(3, [(1, 0), (2, 0), (2, 0)])
        self.assertEqual((idle(probe), peeked(probe), spent(probe)), (2, 3, [(-1, 6)]))

    def test_peeks(self):
        probe = probe_of("call 5\nat 5\nret")
        probe.go(2, [(0, 0), (1, 0), (1, 600), (2, 0)])
        self.assertEqual((peeked(probe), spent(probe)), (3, [(-1, 1 + 2), (5, 2 + 2)]))

    def test_peeks_ahead_of_a_stop_count(self):
        probe = probe_of("mark")
        probe.go(2, [(0, 0)])
        self.assertEqual((peeked(probe), spent(probe), profile(probe)), (1, [(-1, 1)], []))

    def test_forgotten_frames(self):
        probe = probe_of("call 5\nat 5\nlit 1\nret")
        probe.go(1)
        forget_frames(probe)
        probe.go(1)
        self.assertEqual(spent(probe), [(-1, 3)])
        probe.go(1)
        self.assertEqual((spent(probe), strays_of(probe)), ([(-1, 5)], 1))

    def test_clear(self):
        probe = probe_of("call 5\nat 5\nlit 1\nsleep")
        probe.go(6, [(2, 0)])
        before = (trace(probe), frames_of(probe), probe.turns(), probe.register_of("beat"))
        self.assertIsNone(clear_counts(probe))
        self.assertEqual((profile(probe), spent(probe), idle(probe), peeked(probe)), ([], [], 0, 0))
        self.assertEqual((trace(probe), frames_of(probe), probe.turns(), probe.register_of("beat")), before)
        probe.go(2)
        self.assertEqual((profile(probe), spent(probe), idle(probe), peeked(probe)), ([], [(5, 2)], 2, 0))
        clear_counts(probe=probe)
        asked = (profile(probe=probe), spent(probe=probe), idle(probe=probe), peeked(probe=probe))
        self.assertEqual(asked, ([], [], 0, 0))

    def test_own_lists(self):
        probe = probe_of("go 0")
        probe.go(2)
        for asked in (profile, spent):
            asked(probe).clear()
            self.assertEqual(len(asked(probe)), 1)

    def test_marks_and_pokes_take_no_beats(self):
        probe = probe_of("lit 1\nlit 2\nlit 3")
        probe.mark(1, False)
        probe.mark(2, True)
        probe.poke(600, 1)
        self.assertEqual(probe.go(9)[0], ("mark", 1))
        self.assertEqual(probe.go(9)[0], ("mark", 2))
        self.assertEqual((spent(probe), profile(probe)), ([(-1, 2)], [(0, 1, 1), (1, 1, 1)]))


class Sums(unittest.TestCase):
    """Point 31."""

    TEXT = "go main\ngo timer\ngo come\nmain:\nlet 1\nlit 3\nput 771\nlit 97\nput 769\nloop:\ncall deep\nsleep\n" \
        "get 600\nput 773\ngo loop\ndeep:\nget 600\nadd one\nput 600\nhalf\nput 601\ncall less\nret\nless:\n" \
        "push\npop\nret\none:\nword 1\ntimer:\npush\nlit 1\nput 770\ncall less\npop\nback\ncome:\npush\nlit 2\n" \
        "put 770\npop\nback"

    def check(self, probe, beats, interrupts):
        self.assertEqual(sum(row[1] for row in spent(probe)), beats)
        deeds = sum(row[2] for row in profile(probe))
        self.assertEqual(deeds + idle(probe) + peeked(probe) + 3 * interrupts, beats)

    def test_sums(self):
        line = [(beat, beat % 4) for beat in range(7, 3000, 19)]
        probe = probe_of(self.TEXT, line)
        beats = interrupts = 0
        for turn in range(1, 1500):
            beat = probe.register_of("beat")
            probe.go(1, [(0, 600)] * (turn % 7 == 0))
            beats += probe.register_of("beat") - beat
            interrupts += trace(probe)[-1][1] == "interrupt"
            self.check(probe, beats, interrupts)
            if turn % 400 == 0:
                clear_counts(probe)
                beats = interrupts = 0
        self.assertGreater(interrupts, 3)
        self.assertGreater(idle(probe), 3)
        self.assertGreater(peeked(probe), 3)
        self.assertEqual(strays_of(probe), 0)


if __name__ == "__main__":
    unittest.main()
