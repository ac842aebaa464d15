"""Points 21 to 24: marks, hard and soft, what they wear, and watches."""

import unittest
from unittest import mock

from boardheld.errors import Barred, BoardError, NoMark, NoWord, Taken, TooMany
from boardheld.listing import typed
from boardheld.probe import Probe

NO_NUMBERS = (True, False, None, "5", "", 5.0, [5], [], (5,), {}, b"5", object(), 1j, mock.ANY)


def probe_of(text, line=()):
    return Probe(typed(text)[0], list(line))


def called(text, sp=767, pc=100):
    """A probe at beat 1 whose next turn begins an interrupt of the timer."""
    probe = probe_of(text)
    probe.poke(769, 1)
    probe.poke(771, 1)
    probe.set_register("pc", 500)
    probe.go(1, [(0, 0)])
    probe.poke(769, 0)
    for name, thing in (("lets", True), ("sp", sp), ("pc", pc)):
        probe.set_register(name, thing)
    return probe


def stands(probe):
    names = ("a", "b", "pc", "sp", "zero", "lets", "asleep", "beat")
    registers = [probe.register_of(name) for name in names]
    told = [probe.look(0, 774), probe.stop_told(), probe.out(), probe.turns()]
    return registers + told + [probe.marks(), probe.wear(), probe.watches()]


class Refusing(unittest.TestCase):
    def refused(self, error, probe, asked, *things):
        """What is refused so changes nothing."""
        before = stands(probe)
        with self.assertRaises(error) as caught:
            asked(*things)
        self.assertIs(type(caught.exception), error, things)
        self.assertEqual(error.__bases__, (BoardError,))
        self.assertEqual(stands(probe), before)


class Met(Refusing):
    """Point 21: where a mark is met."""

    TEXT = "lit 1\nlit 2\nput 600\nlit 3\nmark"

    def test_both_kinds_in_flash(self):
        for hard in (True, False):
            probe = probe_of(self.TEXT)
            self.assertIsNone(probe.mark(2, hard))
            self.assertEqual(probe.go(9), (("mark", 2), []))
            self.assertEqual((probe.register_of("pc"), probe.turns()), (2, 2))
            self.assertIsNone(probe.stop_told())
            self.assertEqual(probe.go(9), (("mark", 4), []))
            self.assertEqual(probe.stop_told(), ("mark", 4))

    def test_both_kinds_in_ram(self):
        for hard in (True, False):
            probe = probe_of("")
            for address in range(600, 604):
                probe.poke(address, 1024 + address - 600)
            probe.set_register("pc", 600)
            probe.mark(602, hard)
            self.assertEqual(probe.go(9), (("mark", 602), []))
            self.assertEqual(probe.register_of("a"), 1)
            self.assertEqual(probe.go(1), (("turns",), []))
            self.assertEqual(probe.register_of("a"), 2)

    def test_not_at_the_first_turn_of_a_go(self):
        for hard in (True, False):
            probe = probe_of(self.TEXT)
            probe.mark(0, hard)
            self.assertEqual(probe.go(3), (("turns",), []))

    def test_again_each_time_round(self):
        for hard in (True, False):
            probe = probe_of("lit 1\nlit 2\ngo 0")
            probe.mark(1, hard)
            for turns in (1, 4, 7, 10):
                self.assertEqual(probe.go(9), (("mark", 1), []))
                self.assertEqual(probe.turns(), turns)

    def test_at_a_deed_that_leads_to_itself(self):
        for hard in (True, False):
            probe = probe_of("go 0")
            probe.mark(0, hard)
            self.assertEqual(probe.go(9), (("mark", 0), []))
            self.assertEqual(probe.turns(), 1)

    def test_at_the_deed_that_stops_the_board(self):
        for hard in (True, False):
            for last, stop in (("mark", ("mark", 1)), ("word 65535", ("none", 1)), ("put 0", ("flash", 1, 0))):
                probe = probe_of(f"lit 1\n{last}")
                probe.mark(1, hard)
                self.assertEqual(probe.go(9), (("mark", 1), []))
                self.assertIsNone(probe.stop_told())
                self.assertEqual(probe.go(9), (stop, []))
                self.assertEqual(probe.stop_told(), stop)

    def test_not_ahead_of_an_interrupt(self):
        for hard in (True, False):
            probe = called("lit 1\nlet 1\nlit 2", pc=1)
            probe.set_register("lets", False)
            probe.mark(1, hard)
            probe.mark(2, hard)
            # Behind let 1 an interrupt begins at 2; its own first deed, at 1, is the one that is met.
            self.assertEqual(probe.go(9), (("mark", 1), []))
            self.assertEqual((probe.turns(), probe.register_of("sp")), (2, 765))

    def test_not_asleep(self):
        for hard in (True, False):
            probe = probe_of("sleep\nlit 1")
            probe.mark(1, hard)
            self.assertEqual(probe.go(5), (("turns",), []))
            probe.poke(771, 1)
            probe.poke(769, 3)
            # Three turns asleep, then a flag calls: the deed would be done.
            self.assertEqual(probe.go(9), (("mark", 1), []))
            self.assertEqual(probe.turns(), 8)
            self.assertIs(probe.register_of("asleep"), True)

    def test_changes_nothing_of_the_board(self):
        for hard in (True, False):
            marked, other = probe_of(self.TEXT), probe_of(self.TEXT)
            for address in (1, 3):
                marked.mark(address, hard)
            marked.go(9)
            marked.go(9)
            marked.go(9)
            other.go(9)
            self.assertEqual(stands(marked)[:12], stands(other)[:12])


class SetMarks(Refusing):
    """Point 21: setting marks; 23: telling them."""

    def test_greatest_and_least(self):
        probe = probe_of("")
        for address, hard in ((767, True), (0, True), (512, False), (511, False), (1, False)):
            probe.mark(address, hard)
        told = [(0, "hard"), (1, "soft"), (511, "soft"), (512, "soft"), (767, "hard")]
        self.assertEqual(probe.marks(), told)
        probe.marks().clear()
        self.assertEqual(probe.marks(), told)

    def test_no_address(self):
        probe = probe_of("")
        for hard in (True, False):
            for address in (-1, 768, 773, 774, 1023, 1024, *NO_NUMBERS):
                self.refused(NoWord, probe, probe.mark, address, hard)

    def test_taken(self):
        probe = probe_of("")
        probe.mark(5, True)
        probe.mark(600, False)
        for address in (5, 600):
            for hard in (True, False):
                self.refused(Taken, probe, probe.mark, address, hard)

    def test_third_hard_one(self):
        probe = probe_of("")
        for address in (5, 700):
            probe.mark(address, True)
        self.refused(TooMany, probe, probe.mark, 6, True)
        # Taken goes ahead of too many, no word ahead of both.
        self.refused(Taken, probe, probe.mark, 5, True)
        self.refused(NoWord, probe, probe.mark, 768, True)
        probe.mark(6, False)
        self.refused(Taken, probe, probe.mark, 6, True)
        probe.unmark(5)
        probe.mark(5, True)
        self.refused(TooMany, probe, probe.mark, 7, True)

    def test_many_soft_ones(self):
        probe = probe_of("")
        for address in range(768):
            probe.mark(address, False)
        self.assertEqual(probe.marks(), [(address, "soft") for address in range(768)])
        self.assertEqual(probe.look(0, 768), [65535] * 512 + [0] * 256)

    def test_arguments_by_name(self):
        probe = probe_of("")
        probe.mark(hard=True, address=4)
        probe.unmark(address=4)
        self.assertEqual(probe.marks(), [])


class Swapped(Refusing):
    """Point 22."""

    def test_board_reads_0_in_flash_and_ram(self):
        for address in (9, 600):
            for hard, told in ((True, 77), (False, 0)):
                probe = probe_of(f"lit 1\nget {address}\nmark\nat 9\nword 77")
                probe.poke(600, 77)
                probe.mark(address, hard)
                probe.go(2)
                self.assertEqual((probe.register_of("a"), probe.register_of("zero")), (told, told == 0))

    def test_each_op_that_reads(self):
        for row, a in (("get 600", 0), ("add 600", 5), ("sub 600", 5), ("and 600", 0), ("xor 600", 5), ("getb 590", 0)):
            probe = probe_of(row)
            probe.poke(600, 65535)
            probe.set_register("a", 5)
            probe.set_register("b", 10)
            probe.mark(600, False)
            probe.go(1)
            self.assertEqual(probe.register_of("a"), a, row)

    def test_ways_back_read_0(self):
        probe = probe_of("call 5\nat 5\nret")
        probe.go(1)
        probe.mark(767, False)
        probe.go(1)
        self.assertEqual(probe.register_of("pc"), 0)
        self.assertEqual(probe.look(767, 1), [1])

    def test_own_word_in_the_turn_at_pc(self):
        # At the mark's own address the own word is done, and read as the own one by that deed.
        for hard in (True, False):
            probe = probe_of("get 0\nget 0")
            probe.mark(0, hard)
            probe.go(1)
            self.assertEqual(probe.register_of("a"), 2048)
            probe.go(1)
            self.assertEqual(probe.register_of("a"), 2048 if hard else 0)

    def test_probe_sees_the_own_word(self):
        probe = probe_of("lit 5\nlit 6")
        probe.poke(600, 9)
        probe.mark(0, False)
        probe.mark(600, False)
        self.assertEqual(probe.look(0, 2), [1029, 1030])
        self.assertEqual(probe.look(600, 1), [9])
        self.assertEqual(probe.go(1, [(0, 600), (0, 0)])[1], [9, 1029])

    def test_poked_word_is_the_own_one_and_the_mark_stands(self):
        probe = probe_of("get 600\nget 600")
        probe.mark(600, False)
        probe.poke(600, 9)
        self.assertEqual((probe.look(600, 1), probe.marks()), ([9], [(600, "soft")]))
        probe.go(1)
        self.assertEqual(probe.register_of("a"), 0)
        probe.unmark(600)
        probe.go(1)
        self.assertEqual(probe.register_of("a"), 9)

    def test_poke_into_flash_is_barred_there_too(self):
        probe = probe_of("lit 5")
        probe.mark(3, False)
        self.refused(Barred, probe, probe.poke, 3, 0)

    def test_word_put_over_one_by_a_deed(self):
        for row, things in (("put 600", ()), ("putb 500", (("b", 100),)), ("push", (("sp", 600),))):
            probe = probe_of(f"{row}\nget 600")
            for name, thing in (("a", 8), *things):
                probe.set_register(name, thing)
            probe.mark(600, False)
            probe.mark(601, False)
            probe.go(1)
            self.assertEqual((probe.look(600, 1), probe.marks()), ([8], [(601, "soft")]))
            probe.set_register("a", 0)
            probe.go(1)
            self.assertEqual(probe.register_of("a"), 8)

    def test_word_put_over_one_by_a_call(self):
        probe = probe_of("call 7")
        probe.mark(767, False)
        probe.go(1)
        self.assertEqual((probe.marks(), probe.look(767, 1)), ([], [1]))

    def test_words_put_over_two_by_an_interrupt(self):
        probe = called("lit 1")
        for address in (765, 766, 767):
            probe.mark(address, False)
        self.assertEqual(probe.go(1), (("turns",), []))
        self.assertEqual((probe.marks(), probe.look(766, 2)), ([(765, "soft")], [0, 100]))

    def test_hard_one_stays_when_a_word_is_put_there(self):
        probe = probe_of("put 600")
        probe.mark(600, True)
        probe.go(1)
        self.assertEqual(probe.marks(), [(600, "hard")])

    def test_put_that_can_not_be_done_leaves_it(self):
        probe = probe_of("put 3")
        probe.mark(3, False)
        self.assertEqual(probe.go(1), (("flash", 0, 3), []))
        self.assertEqual(probe.marks(), [(3, "soft")])
        probe = called("lit 1", sp=512)
        probe.mark(512, False)
        self.assertEqual(probe.go(1), (("flash", 100, 511), []))
        self.assertEqual(probe.marks(), [(512, "soft")])

    def test_put_over_itself_in_its_turn(self):
        probe = probe_of("")
        probe.poke(600, typed("put 600")[0][0])
        probe.set_register("a", 1030)
        probe.set_register("pc", 600)
        probe.mark(600, False)
        probe.go(1)
        self.assertEqual((probe.marks(), probe.look(600, 1)), ([], [1030]))

    def test_a_word_gone_to_by_a_read_0_is_not_met(self):
        # Met is the mark's address, not what its word reads.
        probe = probe_of("lit 1\ngo 0")
        probe.mark(5, False)
        self.assertEqual(probe.go(7), (("turns",), []))

    def test_plain_has_all_words_its_own(self):
        probe = probe_of("lit 1\nget 600\nlit 2\nmark")
        probe.poke(600, 9)
        probe.mark(600, False)
        probe.mark(2, False)
        board = probe.plain()
        self.assertEqual([board.memory.word_at(address) for address in (2, 600)], [1026, 9])
        board.turn()
        board.turn()
        self.assertEqual(board.registers["a"], 9)
        self.assertEqual([board.turn(), board.turn()], ["deed", "stopped"])
        self.assertEqual(probe.marks(), [(2, "soft"), (600, "soft")])
        probe.go(2)
        self.assertEqual(probe.register_of("a"), 0)


class TakeAway(Refusing):
    """Point 23."""

    def test_wear_at_first(self):
        probe = probe_of("")
        self.assertEqual(probe.wear(), [0] * 16)
        probe.wear()[3] = 9
        self.assertEqual(probe.wear(), [0] * 16)

    def test_setting_wears_nothing(self):
        probe = probe_of("")
        for address in range(0, 768, 16):
            probe.mark(address, False)
        self.assertEqual(probe.wear(), [0] * 16)

    def test_by_its_address(self):
        probe = probe_of("lit 1\nget 0\nget 0")
        for address in (0, 31, 32, 511):
            probe.mark(address, False)
        self.assertIsNone(probe.unmark(0))
        self.assertEqual(probe.wear(), [1] + [0] * 15)
        self.assertEqual(probe.marks(), [(31, "soft"), (32, "soft"), (511, "soft")])
        probe.go(2)
        self.assertEqual(probe.register_of("a"), 1025)
        probe.unmark(511)
        probe.unmark(31)
        self.assertEqual(probe.wear(), [2] + [0] * 14 + [1])

    def test_hard_ones_and_those_in_ram_wear_nothing(self):
        probe = probe_of("")
        probe.mark(0, True)
        probe.mark(600, True)
        probe.mark(512, False)
        probe.mark(767, False)
        for address in (0, 600, 512):
            probe.unmark(address)
        self.assertEqual(probe.marks(), [(767, "soft")])
        probe.mark(3, True)
        probe.clear_marks()
        self.assertEqual((probe.marks(), probe.wear()), ([], [0] * 16))

    def test_one_put_over_in_ram_wears_nothing(self):
        probe = probe_of("put 600")
        probe.mark(600, False)
        probe.go(1)
        probe.clear_marks()
        self.assertEqual(probe.wear(), [0] * 16)

    def test_all_at_once_erase_each_page_once(self):
        probe = probe_of("")
        for address in (0, 1, 31, 64, 95, 480, 511, 512, 767):
            probe.mark(address, False)
        probe.mark(100, True)
        self.assertIsNone(probe.clear_marks())
        self.assertEqual(probe.marks(), [])
        self.assertEqual(probe.wear(), [1, 0, 1] + [0] * 12 + [1])
        probe.clear_marks()
        self.assertEqual(probe.wear(), [1, 0, 1] + [0] * 12 + [1])

    def test_each_by_itself_erases_its_page(self):
        probe = probe_of("")
        for address in (0, 1, 31):
            probe.mark(address, False)
        for address in (0, 1, 31):
            probe.unmark(address)
        self.assertEqual(probe.wear(), [3] + [0] * 15)

    def test_words_stay(self):
        image = list(range(1, 513))
        probe = Probe(image, [])
        for address in (5, 6, 300):
            probe.mark(address, False)
        probe.unmark(5)
        probe.clear_marks()
        self.assertEqual(probe.look(0, 512), image)
        board = probe.plain()
        self.assertEqual([board.memory.word_at(address) for address in range(512)], image)

    def test_no_mark(self):
        probe = probe_of("")
        probe.mark(1, True)
        probe.mark(600, False)
        for address in (0, 2, 767, 768, 1023, -1, 1024, *NO_NUMBERS):
            self.refused(NoMark, probe, probe.unmark, address)
        probe.unmark(1)
        self.refused(NoMark, probe, probe.unmark, 1)

    def test_two_hard_ones_again_when_all_are_gone(self):
        probe = probe_of("")
        for _ in range(2):
            probe.mark(1, True)
            probe.mark(2, True)
            probe.clear_marks()
        self.assertEqual(probe.marks(), [])


class Watches(Refusing):
    """Point 24."""

    def cause(self, text, watches, things=()):
        probe = probe_of(text)
        for name, thing in things:
            probe.set_register(name, thing)
        for watch in watches:
            probe.watch(*watch)
        return probe.go(1)[0]

    def test_kinds(self):
        for kind, by_get, by_put in (("r", True, False), ("w", False, True), ("rw", True, True)):
            told = self.cause("get 600", [(0, 600, 600, kind)])
            self.assertEqual(told, ("watch", 0, 600, "r") if by_get else ("turns",))
            told = self.cause("put 600", [(1, 600, 600, kind)])
            self.assertEqual(told, ("watch", 1, 600, "w") if by_put else ("turns",))

    def test_each_op(self):
        things = (("a", 5), ("b", 10), ("sp", 650))
        for row in ("get 600", "add 600", "sub 600", "and 600", "xor 600", "getb 590"):
            self.assertEqual(self.cause(row, [(0, 600, 600, "rw")], things), ("watch", 0, 600, "r"))
        for row in ("put 600", "putb 590"):
            self.assertEqual(self.cause(row, [(0, 600, 600, "rw")], things), ("watch", 0, 600, "w"))
        for row in ("call 5", "push"):
            self.assertEqual(self.cause(row, [(0, 650, 650, "rw")], things), ("watch", 0, 650, "w"))
            self.assertEqual(self.cause(row, [(0, 651, 651, "rw")], things), ("turns",))
        for row in ("ret", "pop", "back"):
            self.assertEqual(self.cause(row, [(0, 651, 651, "rw")], things), ("watch", 0, 651, "r"))
            self.assertEqual(self.cause(row, [(0, 650, 650, "rw")], things), ("turns",))
        for row in ("lit 600", "tob", "swap", "go 600", "ifz 600", "ifn 600", "sleep", "let 1", "half"):
            self.assertEqual(self.cause(row, [(0, 0, 773, "rw")], things), ("turns",))

    def test_edges_of_the_addresses(self):
        for address, met in ((599, False), (600, True), (650, True), (651, False)):
            told = self.cause(f"get {address}", [(0, 600, 650, "r")])
            self.assertEqual(told, ("watch", 0, address, "r") if met else ("turns",))
        self.assertEqual(self.cause("get 0", [(0, 0, 0, "r")]), ("watch", 0, 0, "r"))
        self.assertEqual(self.cause("get 773", [(0, 773, 773, "r")]), ("watch", 0, 773, "r"))
        self.assertEqual(self.cause("get 400", [(0, 0, 773, "r")]), ("watch", 0, 400, "r"))

    def test_of_both_the_one_numbered_0(self):
        self.assertEqual(self.cause("get 600", [(1, 600, 600, "r"), (0, 0, 773, "r")]), ("watch", 0, 600, "r"))
        self.assertEqual(self.cause("get 600", [(1, 600, 600, "r"), (0, 0, 773, "w")]), ("watch", 1, 600, "r"))

    def test_first_word_in_order(self):
        # Of back the word at sp + 1 is read ahead of that at sp + 2.
        things = (("sp", 700),)
        told = self.cause("back", [(0, 702, 702, "r"), (1, 701, 701, "r")], things)
        self.assertEqual(told, ("watch", 1, 701, "r"))
        self.assertEqual(self.cause("back", [(0, 702, 702, "r")], things), ("watch", 0, 702, "r"))

    def test_by_an_interrupt(self):
        for watches, told in (
            ([(0, 767, 767, "w")], ("watch", 0, 767, "w")),
            ([(0, 766, 766, "w")], ("watch", 0, 766, "w")),
            ([(0, 766, 766, "w"), (1, 767, 767, "rw")], ("watch", 1, 767, "w")),
            ([(0, 0, 773, "rw"), (1, 767, 767, "rw")], ("watch", 0, 767, "w")),
            ([(0, 0, 765, "rw"), (1, 768, 773, "rw")], ("turns",)),
            ([(0, 0, 773, "r")], ("turns",)),
        ):
            probe = called("lit 1")
            for watch in watches:
                probe.watch(*watch)
            self.assertEqual(probe.go(1)[0], told)
            self.assertEqual(probe.register_of("pc"), 1)

    def test_beginning_that_can_not_be_done_meets_none(self):
        probe = called("lit 1", sp=512)
        probe.watch(0, 0, 773, "rw")
        self.assertEqual(probe.go(1)[0], ("flash", 100, 511))

    def test_deeds_peeks_and_pokes_do_not_count(self):
        probe = probe_of("lit 1\nlit 2")
        probe.watch(0, 0, 773, "rw")
        probe.poke(600, 5)
        self.assertEqual(probe.go(2, [(0, 600), (1, 0)]), (("turns",), [5, 1025]))

    def test_a_turn_asleep_meets_none(self):
        probe = probe_of("get 600")
        probe.watch(0, 600, 600, "r")
        probe.go(1)
        probe.set_register("asleep", True)
        self.assertEqual(probe.go(3), (("turns",), []))

    def test_a_deed_that_touches_nothing_meets_none(self):
        probe = probe_of("get 600\nlit 1")
        probe.watch(0, 600, 600, "r")
        self.assertEqual([probe.go(1)[0], probe.go(1)[0]], [("watch", 0, 600, "r"), ("turns",)])

    def test_board_goes_on_behind_it(self):
        probe = probe_of("get 600\nget 600\nget 600")
        probe.watch(0, 600, 600, "r")
        for turns in (1, 2, 3):
            self.assertEqual(probe.go(9), (("watch", 0, 600, "r"), []))
            self.assertEqual(probe.turns(), turns)
        self.assertIsNone(probe.stop_told())

    def test_a_soft_mark_that_is_put_over_is_watched_too(self):
        probe = probe_of("put 600")
        probe.mark(600, False)
        probe.watch(0, 600, 600, "w")
        self.assertEqual(probe.go(1)[0], ("watch", 0, 600, "w"))

    def test_told_and_set_again(self):
        probe = probe_of("get 600")
        self.assertEqual(probe.watches(), [None, None])
        self.assertIsNone(probe.watch(1, 5, 600, "rw"))
        self.assertEqual(probe.watches(), [None, (5, 600, "rw")])
        probe.watch(kind="w", high=773, low=0, number=1)
        self.assertEqual(probe.watches(), [None, (0, 773, "w")])
        probe.watches()[0] = 5
        self.assertEqual(probe.watches(), [None, (0, 773, "w")])
        self.assertEqual(probe.go(1)[0], ("turns",))
        self.assertIsNone(probe.unwatch(number=1))
        self.assertEqual(probe.watches(), [None, None])

    def test_refused(self):
        probe = probe_of("")
        probe.watch(0, 1, 2, "r")
        for number in (-1, 2, 3, *NO_NUMBERS):
            self.refused(NoWord, probe, probe.watch, number, 1, 2, "r")
            self.refused(NoWord, probe, probe.unwatch, number)
        for address in (-1, 774, 1023, *NO_NUMBERS):
            self.refused(NoWord, probe, probe.watch, 0, address, 773, "r")
            self.refused(NoWord, probe, probe.watch, 0, 0, address, "r")
        self.refused(NoWord, probe, probe.watch, 0, 600, 599, "r")
        for kind in ("", "wr", "R", "x", "rwr", "r ", None, 1, True, ["r"], ("r", "w"), b"r", object()):
            self.refused(NoWord, probe, probe.watch, 0, 1, 2, kind)

    def test_ending_one_that_is_not_set(self):
        probe = probe_of("")
        for number in (0, 1):
            self.refused(NoMark, probe, probe.unwatch, number)
            probe.watch(number, 0, 0, "r")
            probe.unwatch(number)
            self.refused(NoMark, probe, probe.unwatch, number)


if __name__ == "__main__":
    unittest.main()
