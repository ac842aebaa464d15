"""Points 17 to 20: what a probe tells of its board, puts there, and how it lets it go."""

import unittest
from unittest import mock

from boardheld.board import Board
from boardheld.errors import Barred, BoardError, NoWord
from boardheld.listing import typed
from boardheld.probe import Probe
from boardheld.steps import frames_of, strays_of
from boardheld.traces import faded, idle, peeked, profile, spent, trace

NO_NUMBERS = (True, False, None, "5", "", 5.0, [5], [], (5,), {}, {5: 5}, b"5", object(), int, 1j, mock.ANY)


def probe_of(text, line=()):
    return Probe(typed(text)[0], list(line))


def stands(probe):
    """All that a probe and its board are."""
    registers = [probe.register_of(name) for name in ("a", "b", "pc", "sp", "zero", "lets", "asleep", "beat")]
    told = [probe.look(0, 774), probe.stop_told(), probe.out(), probe.turns(), probe.marks(), probe.wear()]
    followed = [frames_of(probe), strays_of(probe), trace(probe), faded(probe), profile(probe), spent(probe)]
    return registers + told + [probe.watches()] + followed + [idle(probe), peeked(probe)]


class Refusing(unittest.TestCase):
    def refused(self, error, probe, asked, *things):
        """What is refused so changes nothing."""
        before = stands(probe)
        with self.assertRaises(error) as caught:
            asked(*things)
        self.assertIs(type(caught.exception), error, things)
        self.assertEqual(stands(probe), before)
        return caught.exception


class Look(Refusing):
    """Point 17."""

    def setUp(self):
        self.probe = Probe(list(range(1, 513)), [])
        for address in (512, 767, 768, 769, 771, 773):
            self.probe.poke(address, address)

    def test_single_words(self):
        for address, word in ((0, 1), (511, 512), (512, 512), (767, 767), (768, 768), (770, 0), (772, 0), (773, 773)):
            self.assertEqual(self.probe.look(address, 1), [word])

    def test_many_words(self):
        self.assertEqual(self.probe.look(510, 4), [511, 512, 512, 0])
        self.assertEqual(self.probe.look(766, 8), [0, 767, 768, 769, 0, 771, 0, 773])
        self.assertEqual(self.probe.look(0, 512), list(range(1, 513)))
        self.assertEqual(len(self.probe.look(0, 774)), 774)

    def test_no_words(self):
        for address in (0, 511, 773):
            self.assertEqual(self.probe.look(address, 0), [])

    def test_too_many_words(self):
        for address, many in ((0, 775), (773, 2), (512, 263), (1, 774), (0, 10 ** 30)):
            self.refused(NoWord, self.probe, self.probe.look, address, many)

    def test_below_nought(self):
        for address, many in ((0, -1), (5, -3), (-1, 1), (-1, 0), (-774, 3)):
            self.refused(NoWord, self.probe, self.probe.look, address, many)

    def test_beyond(self):
        for address in (774, 775, 1023, 1024, 65535):
            for many in (0, 1, -1):
                self.refused(NoWord, self.probe, self.probe.look, address, many)

    def test_no_numbers(self):
        for thing in NO_NUMBERS:
            self.refused(NoWord, self.probe, self.probe.look, thing, 1)
            self.refused(NoWord, self.probe, self.probe.look, 1, thing)

    def test_list_is_the_askers_own(self):
        told = self.probe.look(0, 3)
        told[0] = 99
        told.append(5)
        self.assertEqual(self.probe.look(0, 3), [1, 2, 3])

    def test_arguments_by_name(self):
        self.assertEqual(self.probe.look(many=2, address=1), [2, 3])


class Told(Refusing):
    """Point 17: registers, stop, what was sent, turns."""

    def test_each_name(self):
        probe = probe_of("lit 5\ntob\nlit 0\nlet 1\nsleep")
        probe.go(5)
        told = {name: probe.register_of(name) for name in ("a", "b", "pc", "sp", "beat")}
        self.assertEqual(told, {"a": 0, "b": 5, "pc": 5, "sp": 767, "beat": 5})
        for name in ("zero", "lets", "asleep"):
            self.assertIs(probe.register_of(name), True)
            self.assertIs(probe_of("").register_of(name), False)
        self.assertEqual(probe.register_of(name="a"), 0)

    def test_other_names(self):
        probe = probe_of("")
        for name in ("", "A", "c", "sent", "stopped", "memory", "registers", "turns", " a", "a ", "ab", "pc\n", "ze"):
            self.refused(NoWord, probe, probe.register_of, name)
        for thing in NO_NUMBERS:
            self.refused(NoWord, probe, probe.register_of, thing)

    def test_stop(self):
        probe = probe_of("lit 1\nput 3")
        self.assertIsNone(probe.stop_told())
        probe.go(1)
        self.assertIsNone(probe.stop_told())
        probe.go(1)
        self.assertEqual(probe.stop_told(), ("flash", 1, 3))

    def test_out(self):
        probe = probe_of("lit 1\nput 773\nput 773")
        self.assertEqual(probe.out(), [])
        probe.go(3)
        told = probe.out()
        self.assertEqual(told, [(1, 1), (3, 1)])
        told.clear()
        self.assertEqual(probe.out(), [(1, 1), (3, 1)])

    def test_turns(self):
        probe = probe_of("lit 1\nsleep")
        self.assertEqual(probe.turns(), 0)
        probe.go(1)
        self.assertEqual(probe.turns(), 1)
        probe.go(10)
        self.assertEqual(probe.turns(), 11)

    def test_turns_at_which_it_is_stopped_do_not_count(self):
        probe = probe_of("lit 1\nmark")
        probe.go(10)
        self.assertEqual(probe.turns(), 1)
        probe.go(10)
        self.assertEqual(probe.turns(), 1)
        probe.set_register("pc", 0)
        probe.go(10)
        self.assertEqual(probe.turns(), 2)

    def test_asking_changes_nothing(self):
        probe = probe_of("lit 1\nput 773\ncall 0")
        probe.watch(1, 5, 6, "r")
        probe.go(7)
        before = stands(probe)
        for _ in range(3):
            self.assertEqual(stands(probe), before)


class Poke(Refusing):
    """Point 18."""

    def test_ram_and_places(self):
        probe = probe_of("lit 1")
        for address in (512, 600, 767, 768, 769, 771):
            probe.poke(address, 65535)
            self.assertEqual(probe.look(address, 1), [65535])
            self.assertIsNone(probe.poke(address, 0))
            self.assertEqual(probe.look(address, 1), [0])
        self.assertEqual(probe.register_of("beat"), 0)
        self.assertEqual(probe.turns(), 0)
        probe.poke(word=3, address=600)
        self.assertEqual(probe.look(600, 1), [3])

    def test_flags(self):
        for word, left in ((0, 3), (1, 2), (2, 1), (3, 0), (65535, 0), (4, 3)):
            probe = probe_of("lit 1\nlit 1", [(1, 1)])
            probe.poke(769, 1)
            probe.go(1)
            self.assertEqual(probe.look(770, 1), [3])
            probe.poke(770, word)
            self.assertEqual(probe.look(770, 1), [left])

    def test_flags_are_not_set(self):
        probe = probe_of("")
        probe.poke(770, 65535)
        self.assertEqual(probe.look(770, 1), [0])

    def test_line_out(self):
        probe = probe_of("lit 1\nlit 1")
        probe.poke(773, 9)
        probe.go(2)
        probe.poke(773, 0)
        self.assertEqual(probe.out(), [(0, 9), (2, 0)])
        self.assertEqual(probe.look(773, 1), [0])
        self.assertEqual(probe.register_of("beat"), 2)

    def test_barred(self):
        probe = probe_of("lit 1")
        for address, why in ((0, "flash"), (511, "flash"), (772, "still"), (774, "far"), (1023, "far")):
            caught = self.refused(Barred, probe, probe.poke, address, 5)
            self.assertEqual(caught.why, why)

    def test_no_word_and_no_address(self):
        probe = probe_of("lit 1")
        for address in (-1, 1024, 65535, *NO_NUMBERS):
            self.refused(NoWord, probe, probe.poke, address, 5)
        for word in (-1, 65536, *NO_NUMBERS):
            self.refused(NoWord, probe, probe.poke, 600, word)
            # Two refusals are due: the one told first comes.
            self.refused(NoWord, probe, probe.poke, 0, word)
            self.refused(NoWord, probe, probe.poke, 772, word)
            self.refused(NoWord, probe, probe.poke, 1023, word)

    def test_on_a_stopped_board(self):
        probe = probe_of("mark")
        probe.go(1)
        probe.poke(600, 4)
        self.assertEqual((probe.look(600, 1), probe.stop_told()), ([4], ("mark", 0)))


class SetRegister(Refusing):
    """Point 18."""

    def test_registers(self):
        for name in ("a", "b", "pc", "sp"):
            probe = probe_of("lit 1")
            for word in (0, 1, 1023, 65535):
                self.assertIsNone(probe.set_register(name, word))
                others = {other: probe.register_of(other) for other in ("a", "b", "pc", "sp")}
                self.assertEqual(others, {"a": 0, "b": 0, "pc": 0, "sp": 767, name: word})
            self.assertIs(probe.register_of("zero"), False)

    def test_truths(self):
        for name in ("zero", "lets", "asleep"):
            probe = probe_of("lit 1")
            probe.set_register(name, True)
            self.assertEqual([probe.register_of(other) for other in ("zero", "lets", "asleep")].count(True), 1)
            self.assertIs(probe.register_of(name), True)
            probe.set_register(thing=False, name=name)
            self.assertIs(probe.register_of(name), False)

    def test_refused(self):
        probe = probe_of("lit 1")
        for name in ("a", "b", "pc", "sp"):
            for thing in (-1, 65536, *NO_NUMBERS):
                self.refused(NoWord, probe, probe.set_register, name, thing)
        for name in ("zero", "lets", "asleep"):
            for thing in (0, 1, 2, None, "yes", [], [True], 1.0, object()):
                self.refused(NoWord, probe, probe.set_register, name, thing)
        for name in ("beat", "", "A", "c", "stopped", "sent", "pc ", *NO_NUMBERS):
            self.refused(NoWord, probe, probe.set_register, name, 1)
            self.refused(NoWord, probe, probe.set_register, name, True)

    def test_pc_of_a_stopped_board(self):
        probe = probe_of("lit 1\nmark")
        probe.go(5)
        self.assertEqual(probe.stop_told(), ("mark", 1))
        for name, thing in (("a", 5), ("sp", 700), ("zero", True), ("asleep", True), ("asleep", False)):
            probe.set_register(name, thing)
            self.assertEqual(probe.stop_told(), ("mark", 1))
        for pc in (1, 0, 65535):
            probe.set_register("pc", pc)
            self.assertIsNone(probe.stop_told())
            probe.go(3)
        self.assertEqual(probe.stop_told(), ("far", 65535, 65535))

    def test_refused_pc_leaves_the_stop(self):
        probe = probe_of("mark")
        probe.go(1)
        self.refused(NoWord, probe, probe.set_register, "pc", 65536)
        self.assertEqual(probe.stop_told(), ("mark", 0))

    def test_stops_again_at_the_same_deed(self):
        probe = probe_of("mark")
        self.assertEqual(probe.go(2), (("mark", 0), []))
        probe.set_register("pc", 0)
        self.assertEqual(probe.go(0), (("turns",), []))
        self.assertEqual(probe.go(1), (("mark", 0), []))


class Go(Refusing):
    """Point 19."""

    TEXT = "lit 1\nput 600\nget 600\nlit 2\nlit 3\nmark"

    def test_so_many_turns(self):
        for turns in range(6):
            probe = probe_of(self.TEXT)
            told = probe.go(turns)
            self.assertEqual(told, (("turns",), []))
            self.assertIs(type(told), tuple)
            self.assertIs(type(told[0]), tuple)
            self.assertEqual((probe.register_of("pc"), probe.turns()), (turns, turns))

    def test_stop_is_the_cause(self):
        probe = probe_of(self.TEXT)
        self.assertEqual(probe.go(6), (("mark", 5), []))
        self.assertEqual(probe.turns(), 5)

    def test_stopped_already(self):
        probe = probe_of(self.TEXT)
        probe.go(10)
        before = stands(probe)
        self.assertEqual(probe.go(1), (("mark", 5), []))
        self.assertEqual(probe.go(0), (("turns",), []))
        for most in (1, 2, 5):
            self.assertEqual(probe.go(most, [(0, 600), (1, 600)]), (("mark", 5), []))
        self.assertEqual(probe.go(0, [(0, 600)]), (("turns",), []))
        self.assertEqual(stands(probe), before)

    def test_below_nought_is_no_turn(self):
        probe = probe_of(self.TEXT)
        self.assertEqual(probe.go(-1), (("turns",), []))
        self.assertEqual(probe.turns(), 0)

    def test_stop_then_watch_then_mark(self):
        # The put meets a watch, and a mark stands at the deed behind it.
        probe = probe_of(self.TEXT)
        probe.watch(0, 600, 600, "w")
        probe.mark(2, True)
        self.assertEqual(probe.go(9), (("watch", 0, 600, "w"), []))
        self.assertEqual(probe.go(9), (("mark", 5), []))
        probe.set_register("pc", 0)
        probe.unwatch(0)
        self.assertEqual(probe.go(9), (("mark", 2), []))
        self.assertIsNone(probe.stop_told())

    def test_stop_goes_ahead_of_a_watch(self):
        probe = probe_of("back")
        probe.set_register("sp", 772)
        probe.watch(0, 0, 773, "rw")
        self.assertEqual(probe.go(1), (("far", 0, 774), []))

    def test_mark_is_met_ahead_of_a_further_turn_alone(self):
        probe = probe_of(self.TEXT)
        probe.mark(2, True)
        self.assertEqual(probe.go(2), (("turns",), []))
        self.assertEqual(probe.register_of("pc"), 2)
        self.assertEqual(probe.go(1), (("turns",), []))
        self.assertEqual(probe.register_of("pc"), 3)

    def test_arguments_by_name(self):
        probe = probe_of(self.TEXT)
        self.assertEqual(probe.go(peeks=[(0, 5)], most=1), (("turns",), [0]))
        self.assertEqual(probe.go(most=1, peeks=None), (("turns",), []))


class Peeks(Refusing):
    """Point 20."""

    TEXT = "lit 7\nput 600\nlit 8\nput 600\nlit 9\nmark"

    def test_ahead_of_their_turns(self):
        probe = probe_of(self.TEXT)
        cause, words = probe.go(4, [(0, 600), (1, 600), (2, 600), (3, 600)])
        self.assertEqual((cause, words), (("turns",), [0, 0, 7, 7]))
        self.assertEqual((probe.register_of("beat"), probe.turns(), peeked(probe)), (1 + 2 + 1 + 2 + 4, 4, 4))

    def test_order_in_the_list_counts_at_one_turn_alone(self):
        probe = probe_of(self.TEXT)
        cause, words = probe.go(3, [(2, 600), (0, 0), (2, 1), (0, 600), (2, 600)])
        self.assertEqual(words, [1024 + 7, 0, 7, 3072 + 600, 7])

    def test_places_between_beats(self):
        probe = probe_of(self.TEXT, [(1, 1), (3, 2)])
        probe.poke(769, 100)
        cause, words = probe.go(1, [(0, 768), (0, 768), (0, 772), (0, 772), (0, 768), (0, 770)])
        self.assertEqual(words, [0, 1, 1, 2, 4, 2])
        self.assertEqual(probe.look(768, 1), [7])

    def test_of_turns_that_are_not_come_to(self):
        probe = probe_of(self.TEXT)
        cause, words = probe.go(2, [(2, 600), (5, 600), (-1, 600), (1, 0)])
        self.assertEqual((cause, words), (("turns",), [1024 + 7]))
        self.assertEqual(probe.register_of("beat"), 1 + 2 + 1)
        probe = probe_of("mark")
        self.assertEqual(probe.go(9, [(1, 600), (8, 600)]), (("mark", 0), []))

    def test_ahead_of_the_turn_that_stops(self):
        probe = probe_of("mark")
        self.assertEqual(probe.go(9, [(0, 600)]), (("mark", 0), [0]))
        self.assertEqual(probe.register_of("beat"), 1)

    def test_ahead_of_the_look_for_a_mark(self):
        probe = probe_of(self.TEXT)
        probe.mark(2, True)
        self.assertEqual(probe.go(9, [(2, 600), (3, 600)]), (("mark", 2), [7]))
        self.assertEqual((probe.register_of("beat"), probe.turns()), (4, 2))

    def test_a_beat_may_begin_an_interrupt_instead_of_the_deed_at_a_mark(self):
        probe = probe_of("go main\ngo main\ngo main\nmain:\nlet 1\nlit 1\nlit 2")
        probe.poke(771, 1)
        probe.poke(768, 8)
        probe.poke(769, 11)
        probe.mark(4, True)
        # Two turns make two beats, the peek's beat is the third: the timer's flag is set ahead of the look.
        self.assertEqual(probe.go(3, [(2, 0)]), (("turns",), [typed("go 3")[0][0]]))
        self.assertEqual(probe.register_of("pc"), 1)

    def test_wakes(self):
        probe = probe_of("sleep\nlit 4")
        probe.poke(771, 1)
        probe.poke(769, 2)
        cause, words = probe.go(2, [(1, 768)])
        self.assertEqual((cause, words, probe.register_of("a")), (("turns",), [1], 4))

    def test_sends_nothing_and_reads_line_out(self):
        probe = probe_of(self.TEXT)
        probe.poke(773, 5)
        self.assertEqual(probe.go(1, [(0, 773)])[1], [5])
        self.assertEqual(probe.out(), [(0, 5)])

    def test_no_address(self):
        probe = probe_of(self.TEXT)
        for address in (-1, 774, 1023, 1024, *NO_NUMBERS):
            for most in (0, 1, 5, -1):
                self.refused(NoWord, probe, probe.go, most, [(0, 600), (0, address)])
                self.refused(NoWord, probe, probe.go, most, [(99, address)])

    def test_no_address_on_a_stopped_board(self):
        probe = probe_of("mark")
        probe.go(1)
        self.refused(NoWord, probe, probe.go, 1, [(0, 774)])
        self.refused(NoWord, probe, probe.go, 0, [(0, 774)])

    def test_lists_are_not_kept(self):
        probe = probe_of(self.TEXT)
        peeks = [(0, 0), (1, 1)]
        told = probe.go(2, peeks)
        self.assertEqual(peeks, [(0, 0), (1, 1)])
        told[1].clear()
        self.assertEqual(probe.go(1, []), (("turns",), []))
        self.assertEqual(probe.go(1), (("turns",), []))

    def test_greatest_addresses(self):
        probe = probe_of(self.TEXT)
        self.assertEqual(probe.go(1, [(0, 0), (0, 511), (0, 512), (0, 767), (0, 773)])[1], [1031, 65535, 0, 0, 0])


class Errors(unittest.TestCase):
    def test_right_under_one_base(self):
        for error in (NoWord, Barred):
            self.assertEqual(error.__bases__, (BoardError,))

    def test_probe_holds_a_board_of_its_own(self):
        image = typed("lit 5")[0]
        one, other = Probe(image=image, line=[]), Probe(line=[], image=image)
        one.go(1)
        one.poke(600, 4)
        self.assertEqual((other.register_of("a"), other.look(600, 1), other.turns()), (0, [0], 0))

    def test_plain(self):
        probe = probe_of("lit 5\nput 773\nmark")
        probe.go(2)
        board = probe.plain()
        self.assertIsInstance(board, Board)
        self.assertEqual((board.turn(), board.stopped), ("stopped", ("mark", 2)))
        self.assertIsNone(probe.stop_told())
        board.sent.append((9, 9))
        self.assertEqual(probe.out(), [(1, 5)])


if __name__ == "__main__":
    unittest.main()
