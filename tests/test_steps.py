"""Points 25 to 28: frames, and steps by them."""

import unittest

from boardheld.errors import BoardError, NoFrame
from boardheld.listing import typed
from boardheld.probe import Probe
from boardheld.steps import forget_frames, frames_of, step_in, step_out, step_over, strays_of

# An interrupt of the timer calls at its begin, and main calls outer, which calls inner twice.
NESTED = "go main\ngo timer\ngo timer\nmain:\nlit 1\ncall outer\nlit 2\nmark\nouter:\ncall inner\ncall inner\n" \
    "ret\ninner:\nlit 3\nret\ntimer:\nlit 1\nput 770\nback"


def probe_of(text, line=()):
    return Probe(typed(text)[0], list(line))


def timed(text, beats):
    """A probe whose timer calls first behind so many beats, and then long not."""
    probe = probe_of(text)
    probe.poke(771, 1)
    probe.poke(769, 10000)
    probe.poke(768, 10000 - beats)
    probe.set_register("lets", True)
    return probe


def names_in(text):
    return typed(text)[1]


def stands(probe):
    names = ("a", "b", "pc", "sp", "zero", "lets", "asleep", "beat")
    registers = [probe.register_of(name) for name in names]
    return registers + [probe.look(0, 774), probe.stop_told(), probe.out(), probe.turns(), frames_of(probe)]


class Frames(unittest.TestCase):
    """Points 25, 26."""

    def test_none_at_first(self):
        probe = probe_of(NESTED)
        self.assertEqual((frames_of(probe), strays_of(probe)), ([], 0))

    def test_calls(self):
        probe = probe_of(NESTED)
        names = names_in(NESTED)
        told = []
        for _ in range(11):
            probe.go(1)
            told.append(frames_of(probe))
        outer = (4, names["outer"], "call")
        first = (names["outer"], names["inner"], "call")
        second = (names["outer"] + 1, names["inner"], "call")
        expected = [[], [], [outer], [outer, first], [outer, first], [outer], [outer, second], [outer, second],
                    [outer], [], []]
        self.assertEqual(told, expected)
        self.assertEqual(strays_of(probe), 0)

    def test_interrupts(self):
        probe = timed(NESTED, 1)
        told = []
        for _ in range(6):
            probe.go(1)
            told.append(frames_of(probe))
        begun = [(3, 1, "interrupt")]
        self.assertEqual(told, [[], begun, begun, begun, begun, []])

    def test_interrupts_of_the_line(self):
        probe = probe_of("lit 1\nlit 2\nlit 3", [(1, 1)])
        probe.poke(771, 2)
        probe.set_register("lets", True)
        probe.set_register("pc", 0)
        probe.go(2)
        self.assertEqual(frames_of(probe), [(1, 2, "interrupt")])

    def test_call_in_an_interrupt(self):
        probe = timed("call 0\ncall 9\nat 9\nlit 1", 2)
        probe.go(3)
        self.assertEqual(frames_of(probe), [(0, 0, "call"), (0, 1, "interrupt"), (1, 9, "call")])

    def test_each_word_is_a_tuple(self):
        probe = probe_of("call 0")
        probe.go(1)
        self.assertIs(type(frames_of(probe)), list)
        self.assertIs(type(frames_of(probe)[0]), tuple)
        frames_of(probe).clear()
        self.assertEqual(len(frames_of(probe)), 1)

    def test_stray_ways_back(self):
        probe = probe_of("ret")
        probe.set_register("sp", 700)
        probe.go(3)
        self.assertEqual((frames_of(probe), strays_of(probe)), ([], 3))

    def test_back_in_a_call_and_ret_in_an_interrupt_are_stray(self):
        probe = probe_of("call 5\nat 5\nback")
        probe.set_register("sp", 766)
        probe.go(2)
        self.assertEqual((frames_of(probe), strays_of(probe)), ([(0, 5, "call")], 1))
        probe = timed("lit 1\nret", 1)
        probe.go(3)
        self.assertEqual((frames_of(probe), strays_of(probe)), ([(1, 1, "interrupt")], 1))

    def test_a_stray_closes_no_frame_further_out(self):
        # In a call a back strays though an interrupt's frame is open outside of it.
        probe = timed("mark\ncall 20\nat 20\nback", 1)
        probe.poke(600, 1024)
        probe.set_register("pc", 600)
        probe.go(4)
        self.assertEqual(frames_of(probe), [(601, 1, "interrupt"), (1, 20, "call")])
        self.assertEqual(strays_of(probe), 1)

    def test_what_is_not_done_opens_and_closes_nothing(self):
        probe = probe_of("call 5")
        probe.set_register("sp", 5)
        probe.go(1)
        self.assertEqual((probe.stop_told(), frames_of(probe)), (("flash", 0, 5), []))
        probe = probe_of("call 1\nret")
        probe.go(1)
        probe.set_register("sp", 773)
        probe.go(1)
        self.assertEqual((probe.stop_told(), frames_of(probe)), (("far", 1, 774), [(0, 1, "call")]))
        self.assertEqual(strays_of(probe), 0)

    def test_an_interrupt_that_can_not_begin_opens_nothing(self):
        probe = timed("lit 1", 1)
        probe.set_register("sp", 512)
        probe.go(5)
        self.assertEqual((probe.stop_told(), frames_of(probe)), (("flash", 1, 511), []))

    def test_what_is_changed_from_outside_plays_no_part(self):
        probe = probe_of("call 5\nlit 4\nat 5\nret")
        probe.go(1)
        probe.set_register("sp", 700)
        probe.poke(701, 1)
        self.assertEqual(frames_of(probe), [(0, 5, "call")])
        probe.go(1)
        self.assertEqual((frames_of(probe), strays_of(probe)), ([], 0))
        probe.set_register("pc", 0)
        probe.go(1)
        probe.set_register("pc", 1)
        probe.go(1)
        self.assertEqual(frames_of(probe), [(0, 5, "call")])

    def test_a_turn_asleep_opens_and_closes_nothing(self):
        for text in ("call 5", "ret", "back"):
            probe = probe_of(text)
            probe.set_register("sp", 700)
            probe.go(1)
            before = (frames_of(probe), strays_of(probe))
            probe.set_register("asleep", True)
            probe.go(3)
            self.assertEqual((frames_of(probe), strays_of(probe)), before)

    def test_ways_by_other_deeds_close_nothing(self):
        probe = probe_of("call 5\nat 5\ngo 1")
        probe.go(2)
        self.assertEqual(frames_of(probe), [(0, 5, "call")])

    def test_x_that_plays_no_part(self):
        probe = Probe([15360 + 1, 16384 + 9], [])
        probe.go(2)
        self.assertEqual((frames_of(probe), strays_of(probe)), ([], 0))

    def test_forget(self):
        probe = probe_of("call 2\nlit 1\nret\nret")
        probe.go(1)
        self.assertIsNone(forget_frames(probe))
        self.assertEqual((frames_of(probe), strays_of(probe)), ([], 0))
        probe.go(1)
        self.assertEqual((frames_of(probe), strays_of(probe), probe.register_of("pc")), ([], 1, 1))
        forget_frames(probe=probe)
        self.assertEqual(strays_of(probe=probe), 0)
        self.assertEqual(frames_of(probe=probe), [])

    def test_many(self):
        probe = probe_of("call 0")
        for _ in range(3):
            probe.set_register("sp", 767)
            probe.go(200)
        self.assertEqual(frames_of(probe), [(0, 0, "call")] * 600)

    def test_calls_of_all_lengths_of_goes(self):
        for pieces in ((11,), (1, 10), (5, 6), (2, 3, 6)):
            probe = probe_of(NESTED)
            for turns in pieces:
                probe.go(turns)
            self.assertEqual((frames_of(probe), strays_of(probe), probe.turns()), ([], 0, 11))


class StepIn(unittest.TestCase):
    """Point 27: step_in is one turn."""

    def test_one_turn(self):
        probe = probe_of(NESTED)
        self.assertEqual(step_in(probe), ("turns",))
        self.assertEqual((probe.register_of("pc"), probe.turns()), (3, 1))
        step_in(probe=probe)
        step_in(probe)
        self.assertEqual(frames_of(probe), [(4, 7, "call")])

    def test_stop(self):
        probe = probe_of("lit 1\nmark")
        self.assertEqual([step_in(probe) for _ in range(3)], [("turns",), ("mark", 1), ("mark", 1)])
        self.assertEqual(probe.turns(), 1)

    def test_watch(self):
        probe = probe_of("put 600")
        probe.watch(1, 600, 600, "w")
        self.assertEqual(step_in(probe), ("watch", 1, 600, "w"))

    def test_marks_do_not_hold_it(self):
        probe = probe_of("lit 1\nlit 2")
        for address in (0, 1):
            probe.mark(address, address == 0)
        self.assertEqual([step_in(probe), step_in(probe)], [("turns",), ("turns",)])
        self.assertEqual(probe.register_of("a"), 2)

    def test_asleep_and_interrupt(self):
        probe = timed("sleep\nlit 7", 2)
        self.assertEqual([step_in(probe) for _ in range(3)], [("turns",)] * 3)
        self.assertEqual((frames_of(probe), probe.register_of("beat")), ([(1, 1, "interrupt")], 5))


class StepOver(unittest.TestCase):
    """Point 27: step_over."""

    def test_a_plain_deed(self):
        probe = probe_of(NESTED)
        self.assertEqual(step_over(probe, 1), ("done",))
        self.assertEqual(step_over(probe, 99), ("done",))
        self.assertEqual((probe.register_of("pc"), probe.turns()), (4, 2))

    def test_a_call_with_all_that_it_calls(self):
        probe = probe_of(NESTED)
        probe.go(2)
        self.assertEqual(step_over(probe, 99), ("done",))
        self.assertEqual((probe.register_of("pc"), probe.turns(), frames_of(probe)), (5, 2 + 8, []))

    def test_a_call_within_a_call(self):
        probe = probe_of(NESTED)
        probe.go(3)
        self.assertEqual(step_over(probe, 99), ("done",))
        self.assertEqual((probe.register_of("pc"), len(frames_of(probe))), (8, 1))
        self.assertEqual(step_over(most=99, probe=probe), ("done",))
        self.assertEqual((probe.register_of("pc"), len(frames_of(probe))), (9, 1))

    def test_a_ret(self):
        probe = probe_of(NESTED)
        probe.go(5)
        self.assertEqual(len(frames_of(probe)), 2)
        self.assertEqual(step_over(probe, 99), ("done",))
        self.assertEqual((len(frames_of(probe)), probe.turns()), (1, 6))

    def test_most(self):
        for most in range(8):
            probe = probe_of(NESTED)
            probe.go(2)
            self.assertEqual(step_over(probe, most), ("turns",))
            self.assertEqual(probe.turns(), 2 + most)
        probe = probe_of(NESTED)
        probe.go(2)
        self.assertEqual(step_over(probe, 8), ("done",))

    def test_none_and_below(self):
        probe = probe_of("mark")
        for most in (0, -1):
            self.assertEqual(step_over(probe, most), ("turns",))
        probe.go(1)
        self.assertEqual(step_over(probe, 0), ("turns",))
        self.assertEqual(step_over(probe, 1), ("mark", 0))

    def test_stop_within(self):
        probe = probe_of("call 5\nat 5\nlit 1\nmark")
        self.assertEqual(step_over(probe, 99), ("mark", 6))
        self.assertEqual(frames_of(probe), [(0, 5, "call")])

    def test_stop_at_once(self):
        probe = probe_of("mark")
        self.assertEqual(step_over(probe, 9), ("mark", 0))

    def test_watch_within_and_ahead_of_the_end(self):
        probe = probe_of("call 5\nlit 9\nat 5\nput 600\nret")
        probe.watch(0, 600, 600, "w")
        self.assertEqual(step_over(probe, 99), ("watch", 0, 600, "w"))
        probe.set_register("pc", 5)
        probe.unwatch(0)
        probe.watch(1, 767, 767, "r")
        # The way back reads what is watched: the watch goes ahead of the end.
        forget_frames(probe)
        probe.set_register("pc", 0)
        probe.set_register("sp", 767)
        self.assertEqual(step_over(probe, 99), ("watch", 1, 767, "r"))
        self.assertEqual(probe.register_of("pc"), 1)

    def test_mark_within(self):
        for hard in (True, False):
            probe = probe_of(NESTED)
            probe.go(2)
            names = names_in(NESTED)
            probe.mark(names["inner"], hard)
            self.assertEqual(step_over(probe, 99), ("mark", names["inner"]))
            self.assertEqual(probe.turns(), 4)

    def test_mark_at_its_first_deed_or_behind_its_end_does_not_hold_it(self):
        for hard in (True, False):
            probe = probe_of(NESTED)
            probe.go(2)
            probe.mark(4, hard)
            probe.mark(5, hard)
            self.assertEqual(step_over(probe, 99), ("done",))
            self.assertEqual(probe.register_of("pc"), 5)

    def test_an_interrupt_during_the_deed(self):
        # The first turn is the interrupt's beginning; then the interrupt's deeds, then the deed itself.
        probe = timed(NESTED, 1)
        probe.go(1)
        self.assertEqual(step_over(probe, 99), ("done",))
        self.assertEqual((probe.register_of("pc"), probe.register_of("a"), probe.turns()), (4, 1, 1 + 5 + 1))
        self.assertEqual(frames_of(probe), [])

    def test_an_interrupt_that_begins_behind_the_deed_is_not_gone_through(self):
        probe = timed(NESTED, 2)
        probe.go(1)
        self.assertEqual(step_over(probe, 99), ("done",))
        self.assertEqual((probe.register_of("pc"), frames_of(probe)), (4, []))
        self.assertEqual(step_in(probe), ("turns",))
        self.assertEqual(frames_of(probe), [(4, 1, "interrupt")])

    def test_an_interrupt_within_a_call(self):
        for beats in range(3, 14):
            probe = timed(NESTED, beats)
            probe.go(2)
            self.assertEqual(step_over(probe, 99), ("done",))
            self.assertEqual((probe.register_of("pc"), frames_of(probe)), (5, []), beats)

    def test_asleep_it_goes_on_till_a_deed_is_done(self):
        probe = timed("go 9\nlit 1\nput 770\nback\nat 9\nsleep\nlit 5", 4)
        probe.go(2)
        self.assertIs(probe.register_of("asleep"), True)
        self.assertEqual(step_over(probe, 99), ("done",))
        self.assertEqual((probe.register_of("a"), frames_of(probe)), (5, []))

    def test_asleep_for_good(self):
        probe = probe_of("sleep")
        probe.go(1)
        self.assertEqual(step_over(probe, 20), ("turns",))
        self.assertEqual(probe.turns(), 21)

    def test_a_stray_way_back(self):
        probe = probe_of("ret")
        probe.set_register("sp", 700)
        self.assertEqual(step_over(probe, 99), ("done",))
        self.assertEqual((probe.turns(), strays_of(probe)), (1, 1))

    def test_a_stray_in_what_is_called(self):
        # The back within the call leads behind the call, but the frame stays open; then nothing ends the step.
        probe = probe_of("call 5\nlit 1\nlit 2\nmark\nat 5\nback")
        probe.set_register("sp", 766)
        probe.poke(767, 1)
        self.assertEqual(step_over(probe, 99), ("mark", 3))
        self.assertEqual((frames_of(probe), strays_of(probe)), ([(0, 5, "call")], 1))

    def test_counts_the_deeds_done_with_as_many_frames_alone(self):
        # An interrupt begins first; its back comes to no more frames than at first, but no deed was done ahead of it.
        probe = timed("lit 9\ngo 5\nat 5\nlit 1\nput 770\nback", 1)
        probe.poke(600, 1024)
        probe.set_register("pc", 600)
        probe.go(1)
        probe.poke(601, 1024 + 8)
        self.assertEqual(step_over(probe, 99), ("done",))
        self.assertEqual((probe.register_of("pc"), probe.register_of("a")), (602, 8))


class StepOut(unittest.TestCase):
    """Point 27: step_out."""

    def test_no_frame(self):
        for text in ("lit 1", "mark"):
            probe = probe_of(text)
            for most in (0, 1, 99):
                before = stands(probe)
                with self.assertRaises(NoFrame) as caught:
                    step_out(probe, most)
                self.assertEqual(type(caught.exception).__bases__, (BoardError,))
                self.assertEqual(stands(probe), before)
            probe.go(1)

    def test_no_frame_on_a_stopped_board(self):
        probe = probe_of("mark")
        probe.go(1)
        with self.assertRaises(NoFrame):
            step_out(probe, 9)

    def test_out_of_a_call(self):
        for turns, pc, left in ((3, 5, 0), (4, 8, 1), (5, 8, 1), (6, 5, 0), (7, 9, 1), (9, 5, 0)):
            probe = probe_of(NESTED)
            probe.go(turns)
            self.assertEqual(step_out(probe, 99), ("done",))
            self.assertEqual((probe.register_of("pc"), len(frames_of(probe))), (pc, left))

    def test_out_of_an_interrupt(self):
        probe = timed(NESTED, 1)
        probe.go(3)
        self.assertEqual(step_out(most=99, probe=probe), ("done",))
        self.assertEqual((probe.register_of("pc"), frames_of(probe), probe.turns()), (3, [], 6))

    def test_interrupts_on_the_way(self):
        for beats in range(5, 13):
            probe = timed(NESTED, beats)
            probe.go(3)
            self.assertEqual(len(frames_of(probe)), 1)
            self.assertEqual(step_out(probe, 99), ("done",))
            self.assertEqual((probe.register_of("pc"), frames_of(probe)), (5, []), beats)

    def test_most(self):
        for most in range(7):
            probe = probe_of(NESTED)
            probe.go(3)
            self.assertEqual(step_out(probe, most), ("turns",))
            self.assertEqual(probe.turns(), 3 + most)
        self.assertEqual(step_out(probe, 1), ("done",))

    def test_held(self):
        probe = probe_of("call 5\nlit 9\nat 5\nput 600\nlit 1\nret")
        probe.go(1)
        probe.watch(0, 600, 600, "w")
        self.assertEqual(step_out(probe, 99), ("watch", 0, 600, "w"))
        probe.mark(7, True)
        self.assertEqual(step_out(probe, 99), ("mark", 7))
        probe.mark(1, True)
        # It begins at a mark, and its end is ahead of the mark that stands there.
        self.assertEqual(step_out(probe, 99), ("done",))
        self.assertEqual(probe.register_of("pc"), 1)

    def test_watch_goes_ahead_of_the_end(self):
        probe = probe_of("call 5\nat 5\nret")
        probe.watch(0, 767, 767, "r")
        probe.go(1)
        self.assertEqual(step_out(probe, 99), ("watch", 0, 767, "r"))
        self.assertEqual(frames_of(probe), [])

    def test_stop(self):
        probe = probe_of("call 5\nat 5\nmark")
        probe.go(1)
        self.assertEqual(step_out(probe, 99), ("mark", 5))
        self.assertEqual(step_out(probe, 99), ("mark", 5))
        self.assertEqual(step_out(probe, 0), ("turns",))

    def test_a_stray_does_not_end_it(self):
        probe = probe_of("call 5\nlit 1\nmark\nat 5\nback")
        probe.set_register("sp", 766)
        probe.poke(767, 2)
        probe.go(1)
        self.assertEqual(step_out(probe, 99), ("mark", 2))
        self.assertEqual(strays_of(probe), 1)


class Frames28(unittest.TestCase):
    """Point 28."""

    def test_last_frame_tells_to_where_the_board_goes_back(self):
        for beats in range(1, 40):
            probe = timed(NESTED, beats)
            seen = 0
            while probe.stop_told() is None:
                frames = frames_of(probe)
                word = probe.look(probe.register_of("pc"), 1)[0] // 1024
                calls = probe.register_of("lets") and probe.look(770, 1)[0] & probe.look(771, 1)[0]
                step_in(probe)
                if word in (16, 21) and not calls:
                    at, to, kind = frames[-1]
                    self.assertEqual(probe.register_of("pc"), at + 1 if kind == "call" else at)
                    seen += 1
            self.assertGreaterEqual(seen, 3)
            self.assertEqual((frames_of(probe), strays_of(probe)), ([], 0))

    def test_step_over_of_a_deed_that_is_no_call_does_what_step_in_does(self):
        one, other = probe_of(NESTED), probe_of(NESTED)
        for _ in range(12):
            pc = one.register_of("pc")
            if one.look(pc, 1)[0] // 1024 == 15:
                self.assertEqual(step_in(one), step_in(other))
                continue
            told = step_over(one, 3)
            self.assertEqual(step_in(other), ("turns",) if told == ("done",) else told)
            self.assertEqual(stands(one), stands(other))
        self.assertEqual(one.stop_told(), ("mark", 6))


if __name__ == "__main__":
    unittest.main()
