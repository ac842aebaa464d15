"""Points 13 to 16: turns, sleep, interrupts, timer, line, what is sent, twins, and what is no image."""

import unittest

from boardheld.board import Board
from boardheld.errors import BoardError, NoImage
from boardheld.listing import typed
from boardheld.probe import Probe

SIX = {"count": 768, "top": 769, "flags": 770, "mask": 771, "in": 772, "out": 773}


def stands(board):
    """All that a board is, its words by their addresses."""
    told = dict(board.registers)
    told.update(zero=board.zero, lets=board.lets, asleep=board.asleep, beat=board.beat)
    told.update(stopped=board.stopped, sent=list(board.sent))
    told.update({address: board.memory.word_at(address) for address in range(774)})
    return told


def with_flags(text, flags, mask, **things):
    """A board at beat 1 of this text, with these flags set and this mask."""
    probe = Probe(typed(text)[0], [(1, 1)])
    probe.poke(SIX["top"], 1)
    probe.go(1, [(0, 0)])
    # One turn and the peek's beat went by: registers and words are put as they are wanted.
    probe.poke(SIX["flags"], 3 - flags)
    probe.poke(SIX["top"], 0)
    probe.poke(SIX["mask"], mask)
    for name, thing in {"pc": 0, "a": 0, "b": 0, "sp": 767, "zero": False, **things}.items():
        probe.set_register(name, thing)
    board = probe.plain()
    assert board.memory.word_at(SIX["flags"]) == flags and board.stopped is None
    return board


class Turns(unittest.TestCase):
    """Point 13: which turn is which."""

    def test_asleep_without_a_flag(self):
        board = Board(typed("sleep\nlit 5")[0], [])
        self.assertEqual(board.turn(), "deed")
        for beat in range(2, 6):
            before = stands(board)
            self.assertEqual(board.turn(), "asleep")
            self.assertEqual(stands(board), {**before, "beat": beat})
        self.assertIs(board.asleep, True)

    def test_asleep_with_a_flag_that_the_mask_has_not(self):
        for flags, mask in ((1, 0), (1, 2), (2, 1), (3, 0), (3, 65532), (0, 3), (0, 65535)):
            board = with_flags("lit 5", flags, mask, asleep=True, lets=True)
            self.assertEqual(board.turn(), "asleep")
            self.assertIs(board.asleep, True)
            self.assertEqual(board.registers["pc"], 0)

    def test_awake_without_lets_does_the_deed(self):
        board = with_flags("lit 5", 1, 1, asleep=True, lets=False)
        beat = board.beat
        self.assertEqual(board.turn(), "deed")
        self.assertIs(board.asleep, False)
        self.assertEqual((board.registers["a"], board.beat - beat), (5, 1))

    def test_awake_with_lets_begins_an_interrupt(self):
        board = with_flags("lit 5", 1, 1, asleep=True, lets=True)
        self.assertEqual(board.turn(), "interrupt")
        self.assertIs(board.asleep, False)
        self.assertEqual(board.registers["pc"], 1)

    def test_awake_though_the_deed_can_not_be_done(self):
        board = with_flags("mark", 1, 1, asleep=True, lets=False)
        before = stands(board)
        self.assertEqual(board.turn(), "stopped")
        self.assertEqual(stands(board), {**before, "asleep": False, "stopped": ("mark", 0)})

    def test_no_interrupt_without_lets_or_mask(self):
        for flags, mask, lets in ((3, 3, False), (1, 2, True), (2, 1, True), (3, 0, True), (0, 3, True)):
            board = with_flags("lit 5", flags, mask, lets=lets)
            self.assertEqual(board.turn(), "deed")

    def test_wakes_by_the_timer(self):
        probe = Probe(typed("sleep\nlit 7")[0], [])
        probe.poke(SIX["top"], 4)
        probe.poke(SIX["mask"], 1)
        board = probe.plain()
        self.assertEqual([board.turn() for _ in range(5)], ["deed", "asleep", "asleep", "asleep", "deed"])
        self.assertEqual((board.beat, board.registers["a"]), (5, 7))

    def test_stopped_is_told_again(self):
        board = Board([0], [])
        self.assertEqual([board.turn() for _ in range(3)], ["stopped"] * 3)
        self.assertEqual(board.beat, 0)

    def test_stopped_though_it_might_sleep_or_the_deed_could_be_done_by_now(self):
        probe = Probe(typed("push")[0], [])
        probe.set_register("sp", 5)
        self.assertEqual(probe.go(1)[0], ("flash", 0, 5))
        probe.set_register("sp", 700)
        for asleep in (False, True):
            probe.set_register("asleep", asleep)
            board = probe.plain()
            before = stands(board)
            self.assertEqual([board.turn() for _ in range(3)], ["stopped"] * 3)
            self.assertEqual(stands(board), before)
            self.assertEqual(probe.go(3), (("flash", 0, 5), []))


class Interrupts(unittest.TestCase):
    """Point 13: how an interrupt begins."""

    def begun(self, flags, mask, **things):
        board = with_flags("lit 5", flags, mask, lets=True, **things)
        before = stands(board)
        self.assertEqual(board.turn(), "interrupt")
        return before, stands(board)

    def test_of_bit_0(self):
        before, after = self.begun(1, 1, pc=300, a=9, b=8)
        beat = before["beat"] + 3
        self.assertEqual(after, {**before, "pc": 1, "sp": 765, "lets": False, "beat": beat, 767: 300, 766: 0})

    def test_of_bit_1(self):
        before, after = self.begun(2, 2, pc=300, zero=True)
        beat = before["beat"] + 3
        self.assertEqual(after, {**before, "pc": 2, "sp": 765, "lets": False, "beat": beat, 767: 300, 766: 1})

    def test_of_both(self):
        self.assertEqual(self.begun(3, 3)[1]["pc"], 1)
        self.assertEqual(self.begun(3, 65535)[1]["pc"], 1)

    def test_of_one_that_the_mask_has(self):
        self.assertEqual(self.begun(3, 2)[1]["pc"], 2)
        self.assertEqual(self.begun(3, 1)[1]["pc"], 1)
        self.assertEqual(self.begun(2, 3)[1]["pc"], 2)

    def test_flags_stay_set(self):
        self.assertEqual(self.begun(3, 3)[1][SIX["flags"]], 3)

    def test_pc_that_is_far_is_put_all_the_same(self):
        before, after = self.begun(1, 1, pc=65535)
        self.assertEqual((after["pc"], after[767]), (1, 65535))

    def test_goes_back(self):
        board = with_flags("go 100\nback\nback", 1, 1, pc=300, zero=True, lets=True)
        board.turn()
        self.assertEqual(board.turn(), "deed")
        self.assertEqual((board.registers["pc"], board.registers["sp"]), (300, 767))
        self.assertEqual((board.zero, board.lets), (True, True))

    def test_no_further_one_till_it_lets(self):
        board = with_flags("go 100\nlit 1\nlet 1\nlit 2", 3, 3, lets=True)
        self.assertEqual([board.turn() for _ in range(4)], ["interrupt", "deed", "deed", "interrupt"])

    def test_least_and_greatest_sp(self):
        before, after = self.begun(1, 1, sp=513, pc=300, zero=True)
        self.assertEqual((after[513], after[512], after["sp"]), (300, 1, 511))
        before, after = self.begun(1, 1, sp=771, pc=300)
        self.assertEqual((after[771], after[770], after["sp"]), (300, 1, 769))

    def test_flags_are_those_ahead_of_the_words_that_are_put(self):
        before, after = self.begun(3, 3, sp=770, pc=301)
        self.assertEqual(after[SIX["flags"]], 3 - 301 % 4)
        self.assertEqual((after["pc"], after[SIX["top"]], after["sp"]), (1, 0, 768))
        before, after = self.begun(3, 3, sp=771, pc=301, zero=True)
        self.assertEqual((after[SIX["mask"]], after[SIX["flags"]], after["pc"]), (301, 2, 1))

    def test_timer_goes_with_the_words_that_are_put(self):
        # Top becomes 300, and count what zero is; then three beats go by.
        before, after = self.begun(1, 1, sp=769, pc=300, zero=True)
        self.assertEqual((after[SIX["top"]], after[SIX["count"]]), (300, 4))

    def stops(self, sp, stop, pc=300):
        board = with_flags("lit 5", 1, 1, lets=True, asleep=True, sp=sp, pc=pc, zero=True)
        before = stands(board)
        for _ in range(4):
            self.assertEqual(board.turn(), "stopped")
            self.assertEqual(stands(board), {**before, "asleep": False, "stopped": stop})

    def test_can_not_be_done_at_sp(self):
        for sp in (0, 1, 511):
            self.stops(sp, ("flash", 300, sp))
        self.stops(772, ("still", 300, 772))
        for sp in (774, 1023, 65535):
            self.stops(sp, ("far", 300, sp))

    def test_can_not_be_done_below_sp(self):
        self.stops(512, ("flash", 300, 511))
        self.stops(773, ("still", 300, 772))

    def test_pc_of_the_stop_may_be_far(self):
        self.stops(512, ("flash", 65535, 511), pc=65535)


class Timer(unittest.TestCase):
    """Point 14."""

    def board(self, count, top, mask=0):
        probe = Probe(typed("lit 1\n" * 200)[0], [])
        probe.poke(SIX["count"], count)
        probe.poke(SIX["top"], top)
        probe.poke(SIX["mask"], mask)
        return probe.plain()

    def told(self, board, beats):
        rows = []
        for _ in range(beats):
            board.turn()
            rows.append((board.memory.word_at(SIX["count"]), board.memory.word_at(SIX["flags"])))
        return rows

    def test_top_0(self):
        self.assertEqual(self.told(self.board(0, 0), 3), [(0, 0)] * 3)
        self.assertEqual(self.told(self.board(9, 0), 3), [(9, 0)] * 3)

    def test_top_1(self):
        self.assertEqual(self.told(self.board(0, 1), 3), [(0, 1)] * 3)

    def test_top_3(self):
        rows = [(1, 0), (2, 0), (0, 1), (1, 1), (2, 1), (0, 1), (1, 1)]
        self.assertEqual(self.told(self.board(0, 3), 7), rows)

    def test_count_above_top(self):
        self.assertEqual(self.told(self.board(9, 5), 3), [(0, 1), (1, 1), (2, 1)])
        self.assertEqual(self.told(self.board(5, 5), 2), [(0, 1), (1, 1)])
        self.assertEqual(self.told(self.board(4, 5), 2), [(0, 1), (1, 1)])
        self.assertEqual(self.told(self.board(65535, 65535), 2), [(0, 1), (1, 1)])
        self.assertEqual(self.told(self.board(65533, 65535), 2), [(65534, 0), (0, 1)])

    def test_top_changed_midway(self):
        text = "lit 9\nput 769\nlit 1\nlit 2\nput 769\nlit 1\nlit 1\nlit 0\nput 769\nlit 1"
        board = Board(typed(text)[0], [])
        counts = []
        for _ in range(10):
            board.turn()
            counts.append((board.memory.word_at(SIX["count"]), board.memory.word_at(SIX["flags"])))
        expected = [(0, 0), (2, 0), (3, 0), (4, 0), (1, 1), (0, 1), (1, 1), (0, 1), (0, 1), (0, 1)]
        self.assertEqual(counts, expected)

    def test_goes_with_each_beat_of_a_deed(self):
        probe = Probe(typed("back\n")[0], [])
        probe.set_register("sp", 700)
        probe.poke(SIX["top"], 2)
        board = probe.plain()
        board.turn()
        self.assertEqual((board.memory.word_at(SIX["count"]), board.memory.word_at(SIX["flags"])), (1, 1))

    def test_count_put_stays_as_it_was_put(self):
        board = Board(typed("lit 7\nput 768\nlit 1")[0], [])
        self.assertEqual([(board.turn(), board.memory.word_at(768))[1] for _ in range(3)], [0, 7, 7])

    def test_goes_asleep_too(self):
        probe = Probe(typed("sleep")[0], [])
        probe.poke(SIX["top"], 100)
        board = probe.plain()
        for _ in range(10):
            board.turn()
        self.assertEqual(board.memory.word_at(SIX["count"]), 10)

    def test_does_not_go_when_stopped(self):
        probe = Probe([0], [])
        probe.poke(SIX["top"], 100)
        board = probe.plain()
        board.turn()
        self.assertEqual(board.memory.word_at(SIX["count"]), 0)


class Lines(unittest.TestCase):
    """Point 15."""

    def told(self, line, beats, text="lit 1\n" * 30):
        board = Board(typed(text)[0], line)
        rows = []
        for _ in range(beats):
            board.turn()
            rows.append((board.memory.word_at(SIX["in"]), board.memory.word_at(SIX["flags"])))
        return rows

    def test_no_line(self):
        self.assertEqual(self.told([], 3), [(0, 0)] * 3)

    def test_from_beat_1_on(self):
        self.assertEqual(self.told([(1, 1), (2, 0), (3, 2)], 4), [(1, 2), (0, 2), (2, 2), (2, 2)])

    def test_values(self):
        self.assertEqual(self.told([(2, 2), (3, 0), (4, 2)], 5), [(0, 0), (2, 0), (0, 0), (2, 0), (2, 0)])
        self.assertEqual(self.told([(2, 3)], 3), [(0, 0), (3, 2), (3, 2)])

    def test_rising_is_of_bit_0(self):
        # The flag is cleared behind the first rising; 3 behind 1 is none, 1 behind 2 is one.
        text = "lit 2\nput 770\n" + "lit 1\n" * 10
        line = [(1, 1), (4, 3), (5, 2), (6, 1), (7, 1)]
        board = Board(typed(text)[0], line)
        rows = []
        for _ in range(7):
            board.turn()
            rows.append((board.beat, board.memory.word_at(SIX["in"]), board.memory.word_at(SIX["flags"])))
        self.assertEqual(rows, [(1, 1, 2), (3, 1, 0), (4, 3, 0), (5, 2, 0), (6, 1, 2), (7, 1, 2), (8, 1, 2)])

    def test_within_the_beats_of_a_deed(self):
        self.assertEqual(self.told([(1, 1), (2, 0)], 1, "get 0"), [(0, 2)])

    def test_line_comes_ahead_of_the_timer_and_asleep(self):
        board = Board(typed("sleep")[0], [(3, 1), (5, 2)])
        told = []
        for _ in range(6):
            board.turn()
            told.append(board.memory.word_at(SIX["in"]))
        self.assertEqual(told, [0, 0, 1, 1, 2, 2])

    def test_is_read_as_the_beat_before_left_it(self):
        board = Board(typed("get 772\nget 772")[0], [(1, 3)])
        board.turn()
        self.assertEqual(board.registers["a"], 0)
        board.turn()
        self.assertEqual(board.registers["a"], 3)

    def test_long_lines_and_late_beats(self):
        line = [(beat * 1000, beat % 4) for beat in range(1, 120)]
        board = Board([19456], line)
        for _ in range(100000):
            board.turn()
        self.assertEqual((board.beat, board.memory.word_at(SIX["in"])), (100000, 100 % 4))

    def test_flags_are_cleared_by_the_bits_of_a_word(self):
        for word, left in ((0, 3), (1, 2), (2, 1), (3, 0), (65535, 0), (65532, 3), (5, 2)):
            board = with_flags("put 770", 3, 0, a=word)
            board.turn()
            self.assertEqual(board.memory.word_at(SIX["flags"]), left, word)

    def test_flags_can_not_be_set_by_a_word(self):
        board = Board(typed("lit 3\nput 770")[0], [])
        board.turn()
        board.turn()
        self.assertEqual(board.memory.word_at(SIX["flags"]), 0)

    def test_flag_cleared_comes_again_in_the_beats_of_the_same_deed(self):
        probe = Probe(typed("lit 1\nput 770")[0], [])
        probe.poke(SIX["top"], 2)
        board = probe.plain()
        board.turn()
        board.turn()
        self.assertEqual((board.memory.word_at(SIX["count"]), board.memory.word_at(SIX["flags"])), (1, 1))


class Sent(unittest.TestCase):
    """Point 15: line out."""

    def test_with_the_beat_ahead_of_its_own(self):
        board = Board(typed("lit 5\nput 773\nput 773\nlit 0\nput 773\ncall 600")[0], [])
        for _ in range(5):
            board.turn()
        self.assertEqual(board.sent, [(1, 5), (3, 5), (6, 0)])
        self.assertEqual(board.memory.word_at(SIX["out"]), 0)
        for row in board.sent:
            self.assertIs(type(row), tuple)

    def test_by_putb_push_and_call(self):
        probe = Probe(typed("putb 700\npush\ncall 9")[0], [])
        for name, thing in (("a", 4), ("b", 73), ("sp", 773)):
            probe.set_register(name, thing)
        board = probe.plain()
        board.turn()
        board.turn()
        self.assertEqual(board.sent, [(0, 4), (2, 4)])
        probe.set_register("pc", 2)
        board = probe.plain()
        board.turn()
        self.assertEqual(board.sent, [(0, 3)])

    def test_a_beginning_of_an_interrupt_that_can_not_be_done_sends_nothing(self):
        # At sp 773 its first word would be sent, but the second one is line in.
        board = with_flags("lit 5", 1, 1, lets=True, sp=773)
        self.assertEqual(board.turn(), "stopped")
        self.assertEqual(board.sent, [])


class Twins(unittest.TestCase):
    """Point 16."""

    TEXT = "go main\ngo timer\ngo come\nmain:\nlet 1\nlit 3\nput 771\nlit 61\nput 769\nloop:\nadd one\nput 600\n" \
        "put 773\npush\npop\ngo loop\none:\nword 1\ntimer:\nlit 1\nput 770\nback\ncome:\nlit 2\nput 770\nback"
    LINE = [(beat, beat % 4) for beat in range(5, 700, 13)]

    def test_stands_and_runs_on_alike(self):
        for turns in (0, 1, 10, 57, 120):
            board = Board(typed(self.TEXT)[0], list(self.LINE))
            for _ in range(turns):
                board.turn()
            before = stands(board)
            twin = board.twin()
            self.assertIsInstance(twin, Board)
            self.assertEqual(stands(twin), before)
            told = [twin.turn() for _ in range(80)]
            self.assertEqual(stands(board), before)
            self.assertEqual([board.turn() for _ in range(80)], told)
            self.assertEqual(stands(board), stands(twin))
            self.assertIn("interrupt", told)
            self.assertNotEqual(twin.sent, before["sent"])
            self.assertNotEqual(twin.memory.word_at(600), before[600])

    def test_own_words_and_registers(self):
        board = Board(typed("lit 5\nput 600\nput 773\nmark")[0], [])
        twin = board.twin()
        for _ in range(4):
            board.turn()
        self.assertEqual(stands(twin), stands(Board(typed("lit 5\nput 600\nput 773\nmark")[0], [])))
        again = board.twin()
        self.assertEqual(stands(again), stands(board))
        self.assertEqual(again.sent, [(3, 5)])
        self.assertEqual(again.stopped, ("mark", 3))
        self.assertEqual(again.turn(), "stopped")
        self.assertIsNone(twin.stopped)
        self.assertEqual(twin.sent, [])

    def test_asleep_and_truths(self):
        board = with_flags("lit 5", 0, 0, asleep=True, lets=True, zero=True)
        twin = board.twin()
        self.assertEqual((twin.asleep, twin.lets, twin.zero), (True, True, True))
        self.assertEqual(twin.turn(), "asleep")

    def test_twin_of_a_twin(self):
        board = Board(typed(self.TEXT)[0], list(self.LINE))
        twin = board.twin().twin()
        for _ in range(50):
            board.turn()
            twin.turn()
        self.assertEqual(stands(board), stands(twin))


class NoImages(unittest.TestCase):
    """Point 16: made of what is no image or no line. A probe refuses the same."""

    def refused(self, image, line):
        for made in (Board, Probe):
            with self.assertRaises(NoImage) as caught:
                made(image, line)
            self.assertEqual(type(caught.exception).__mro__[1], BoardError)

    def test_too_many_words(self):
        self.refused([0] * 513, [])
        self.refused([0] * 5000, [])
        Board([0] * 512, [])

    def test_no_words(self):
        wrong = (-1, 65536, 10 ** 30, True, False, None, "5", 5.0, [5], (5,), b"5", {})
        for thing in wrong:
            self.refused([thing], [])
            self.refused([1, thing, 2], [])
            self.refused([0] * 511 + [thing], [])
        Board([0, 65535], [])

    def test_beats_that_do_not_rise(self):
        self.refused([], [(1, 0), (1, 1)])
        self.refused([], [(5, 0), (4, 1)])
        self.refused([], [(1, 0), (2, 0), (3, 0), (3, 0)])
        Board([], [(1, 0), (2, 0), (100000, 3)])

    def test_beats_below_1(self):
        self.refused([], [(0, 1)])
        self.refused([], [(-1, 1)])
        self.refused([], [(-5, 1), (3, 1)])

    def test_values_beyond(self):
        self.refused([], [(1, 4)])
        self.refused([], [(1, -1)])
        self.refused([], [(1, 0), (2, 65535)])
        Board([], [(1, 0), (2, 1), (3, 2), (4, 3)])

    def test_truths_among_the_numbers(self):
        self.refused([], [(True, 1)])
        self.refused([], [(1, True)])
        self.refused([], [(1, False)])
        self.refused([], [(1, 0), (2, False)])

    def test_other_things_in_a_line(self):
        for row in ((1, "1"), ("1", 1), (1.0, 1), (1, 1.0), (None, 1), (1, None), ([1], 1), (1,), (1, 1, 1), (), 1):
            self.refused([], [row])

    def test_both(self):
        self.refused([-1], [(0, 0)])

    def test_what_is_no_list(self):
        for thing in (None, 5, True, "ab", {}, (1, 2)):
            self.refused(thing, [])
            self.refused([], thing)

    def test_no_bound_on_rows_and_beats(self):
        board = Board([], [(beat, 1) for beat in range(1, 200)] + [(200000, 0)])
        self.assertEqual(board.beat, 0)


class NotKept(unittest.TestCase):
    """Point 2: what is handed in is neither changed nor kept."""

    def test_board(self):
        image = typed("lit 5\nput 600\nmark")[0]
        line = [(1, 1), (3, 2)]
        handed = (list(image), list(line))
        board = Board(image, line)
        board.turn()
        board.turn()
        self.assertEqual((image, line), handed)
        board = Board(image, line)
        image[0] = 0
        image.append(5)
        line[0] = (1, 0)
        line.append((4, 3))
        board.turn()
        self.assertEqual(board.registers["a"], 5)
        self.assertEqual(board.memory.word_at(772), 1)
        self.assertEqual(board.memory.word_at(3), 65535)
        board.turn()
        self.assertEqual(board.memory.word_at(772), 2)

    def test_twin_of_a_board_whose_line_was_changed(self):
        line = [(1, 1), (3, 2)]
        board = Board(typed("lit 5\nput 600\nmark")[0], line)
        line.clear()
        twin = board.twin()
        twin.turn()
        self.assertEqual(twin.memory.word_at(772), 1)

    def test_probe(self):
        image = typed("lit 5\nput 600\nmark")[0]
        line = [(1, 1)]
        probe = Probe(image, line)
        image[0] = 0
        line[0] = (1, 0)
        probe.go(1)
        self.assertEqual((probe.register_of("a"), probe.look(772, 1)), (5, [1]))


if __name__ == "__main__":
    unittest.main()
