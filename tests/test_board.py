"""Points 9 to 12: a board at first, its deeds, and what stops it."""

import unittest

from boardheld.board import Board
from boardheld.listing import typed
from boardheld.probe import Probe

OPS = {
    "mark": 0, "lit": 1, "get": 2, "put": 3, "add": 4, "sub": 5, "and": 6, "xor": 7, "getb": 8, "putb": 9,
    "tob": 10, "swap": 11, "go": 12, "ifz": 13, "ifn": 14, "call": 15, "ret": 16, "push": 17, "pop": 18,
    "sleep": 19, "let": 20, "back": 21, "half": 22,
}
WITHOUT_X = ("tob", "swap", "ret", "push", "pop", "sleep", "back", "half")


def stands(board):
    """All that a board is, its words by their addresses."""
    told = dict(board.registers)
    told.update(zero=board.zero, lets=board.lets, asleep=board.asleep, beat=board.beat)
    told.update(stopped=board.stopped, sent=list(board.sent))
    told.update({address: board.memory.word_at(address) for address in range(774)})
    return told


def set_up(image, things=None, words=None):
    """A board of an image, in which these registers and words were put from outside."""
    probe = Probe(image, [])
    for name, thing in (things or {}).items():
        probe.set_register(name, thing)
    for address, word in (words or {}).items():
        probe.poke(address, word)
    return probe.plain()


class AtFirst(unittest.TestCase):
    """Point 9."""

    def test_fields(self):
        board = Board([5, 6], [])
        self.assertEqual(board.registers, {"a": 0, "b": 0, "pc": 0, "sp": 767})
        self.assertIs(board.zero, False)
        self.assertIs(board.lets, False)
        self.assertIs(board.asleep, False)
        self.assertEqual(board.beat, 0)
        self.assertIsNone(board.stopped)
        self.assertEqual(board.sent, [])

    def test_words(self):
        board = Board([5, 6], [])
        words = [board.memory.word_at(address) for address in range(774)]
        self.assertEqual(words, [5, 6] + [65535] * 510 + [0] * 262)
        self.assertIsNone(board.memory.word_at(774))

    def test_arguments_by_name(self):
        board = Board(line=[(1, 1)], image=[1024])
        self.assertEqual(board.turn(), "deed")
        self.assertEqual(board.memory.word_at(address=772), 1)


class Deeds(unittest.TestCase):
    """Points 10, 11: what a deed does, where pc leads, its zero and its beats."""

    def check(self, word, things, words, changes, puts, beats):
        """A deed at 40 changes just these, and pc to 41 where they don't tell of it."""
        board = set_up([65535] * 40 + [word, 65535], {"pc": 40, **things}, words)
        before = stands(board)
        self.assertEqual(board.turn(), "deed")
        expected = {**before, "pc": 41, **changes, **puts, "beat": before["beat"] + beats}
        self.assertEqual(stands(board), expected)
        for name in ("zero", "lets", "asleep"):
            self.assertIs(type(stands(board)[name]), bool)

    def test_lit(self):
        self.check(1024, {"a": 9}, {}, {"a": 0, "zero": True}, {}, 1)
        self.check(1025, {"a": 9, "zero": True}, {}, {"a": 1, "zero": False}, {}, 1)
        self.check(2047, {"zero": True}, {}, {"a": 1023, "zero": False}, {}, 1)

    def test_get(self):
        for address in (512, 767, 768, 771, 773):
            self.check(2048 + address, {"zero": True}, {address: 7}, {"a": 7, "zero": False}, {}, 2)
        self.check(2048 + 769, {}, {769: 7}, {"a": 7}, {768: 2}, 2)
        self.check(2048 + 40, {}, {}, {"a": 2088, "zero": False}, {}, 2)
        self.check(2048, {}, {}, {"a": 65535, "zero": False}, {}, 2)
        self.check(2048 + 511, {}, {}, {"a": 65535, "zero": False}, {}, 2)
        self.check(2048 + 770, {"a": 1}, {}, {"a": 0, "zero": True}, {}, 2)
        self.check(2048 + 772, {"a": 1}, {}, {"a": 0, "zero": True}, {}, 2)

    def test_put(self):
        for address in (512, 600, 767, 768, 771):
            self.check(3072 + address, {"a": 65535, "zero": True}, {}, {}, {address: 65535}, 2)
        self.check(3072 + 512, {"a": 0}, {512: 8}, {}, {512: 0}, 2)
        self.check(3072 + 773, {"a": 3}, {}, {"sent": [(0, 3)]}, {773: 3}, 2)

    def test_put_to_top_lets_the_timer_go_in_its_own_beats(self):
        self.check(3072 + 769, {"a": 9}, {}, {}, {769: 9, 768: 2}, 2)

    def test_add(self):
        self.check(4096 + 600, {"a": 65535}, {600: 1}, {"a": 0, "zero": True}, {}, 2)
        self.check(4096 + 600, {"a": 65535}, {600: 65535}, {"a": 65534}, {}, 2)
        self.check(4096 + 600, {"a": 0}, {600: 0}, {"a": 0, "zero": True}, {}, 2)
        self.check(4096 + 600, {"a": 3, "zero": True}, {600: 4}, {"a": 7, "zero": False}, {}, 2)
        self.check(4096 + 600, {"a": 65534}, {600: 1}, {"a": 65535}, {}, 2)

    def test_sub(self):
        self.check(5120 + 600, {"a": 0}, {600: 1}, {"a": 65535}, {}, 2)
        self.check(5120 + 600, {"a": 0}, {600: 65535}, {"a": 1}, {}, 2)
        self.check(5120 + 600, {"a": 5}, {600: 5}, {"a": 0, "zero": True}, {}, 2)
        self.check(5120 + 600, {"a": 65535, "zero": True}, {600: 1}, {"a": 65534, "zero": False}, {}, 2)

    def test_and_and_xor(self):
        self.check(6144 + 600, {"a": 0b1100}, {600: 0b1010}, {"a": 0b1000}, {}, 2)
        self.check(6144 + 600, {"a": 0b1100}, {600: 0b0011}, {"a": 0, "zero": True}, {}, 2)
        self.check(6144 + 600, {"a": 65535, "zero": True}, {600: 43690}, {"a": 43690, "zero": False}, {}, 2)
        self.check(7168 + 600, {"a": 0b1100}, {600: 0b1010}, {"a": 0b0110}, {}, 2)
        self.check(7168 + 600, {"a": 65535}, {600: 65535}, {"a": 0, "zero": True}, {}, 2)
        self.check(7168 + 600, {"a": 0, "zero": True}, {600: 65535}, {"a": 65535, "zero": False}, {}, 2)

    def test_getb(self):
        self.check(8192 + 600, {"b": 3}, {603: 77, 600: 5}, {"a": 77}, {}, 2)
        self.check(8192, {"b": 773, "a": 5}, {}, {"a": 0, "zero": True}, {}, 2)
        self.check(8192 + 773, {"b": 0, "zero": True}, {773: 4}, {"a": 4, "zero": False}, {}, 2)

    def test_putb(self):
        self.check(9216 + 600, {"b": 3, "a": 8}, {}, {}, {603: 8}, 2)
        self.check(9216, {"b": 512, "a": 8, "zero": True}, {}, {}, {512: 8}, 2)
        self.check(9216 + 700, {"b": 73, "a": 8}, {}, {"sent": [(0, 8)]}, {773: 8}, 2)

    def test_tob_and_swap(self):
        self.check(10240, {"a": 6, "b": 9, "zero": True}, {}, {"b": 6}, {}, 1)
        self.check(10240, {"a": 0, "b": 9}, {}, {"b": 0}, {}, 1)
        self.check(11264, {"a": 6, "b": 9, "zero": True}, {}, {"a": 9, "b": 6, "zero": False}, {}, 1)
        self.check(11264, {"a": 6, "b": 0}, {}, {"a": 0, "b": 6, "zero": True}, {}, 1)

    def test_go(self):
        for x in (0, 40, 767, 768, 1023):
            self.check(12288 + x, {}, {}, {"pc": x}, {}, 1)

    def test_ifz(self):
        self.check(13312 + 300, {"zero": True, "a": 1}, {}, {"pc": 300}, {}, 1)
        self.check(13312 + 300, {"zero": False, "a": 0}, {}, {}, {}, 1)

    def test_ifn(self):
        self.check(14336 + 300, {"a": 32767}, {}, {}, {}, 1)
        self.check(14336 + 300, {"a": 32768}, {}, {"pc": 300}, {}, 1)
        self.check(14336 + 300, {"a": 65535, "zero": True}, {}, {"pc": 300}, {}, 1)
        self.check(14336 + 300, {"a": 0}, {}, {}, {}, 1)

    def test_call(self):
        self.check(15360 + 300, {"zero": True}, {}, {"pc": 300, "sp": 766}, {767: 41}, 2)
        self.check(15360 + 1023, {"sp": 512}, {}, {"pc": 1023, "sp": 511}, {512: 41}, 2)
        self.check(15360, {"sp": 773}, {}, {"pc": 0, "sp": 772, "sent": [(0, 41)]}, {773: 41}, 2)
        self.check(15360 + 40, {"sp": 771}, {}, {"pc": 40, "sp": 770}, {771: 41}, 2)

    def test_ret(self):
        self.check(16384, {"sp": 766, "zero": True}, {767: 300}, {"pc": 300, "sp": 767}, {}, 2)
        self.check(16384, {"sp": 600}, {601: 65535}, {"pc": 65535, "sp": 601}, {}, 2)
        self.check(16384, {"sp": 772}, {773: 5}, {"pc": 5, "sp": 773}, {}, 2)
        self.check(16384, {"sp": 39}, {}, {"pc": 16384, "sp": 40}, {}, 2)

    def test_push(self):
        self.check(17408, {"a": 8, "zero": True}, {}, {"sp": 766}, {767: 8}, 2)
        self.check(17408, {"a": 0, "sp": 512}, {512: 3}, {"sp": 511}, {512: 0}, 2)
        self.check(17408, {"a": 6, "sp": 773}, {}, {"sp": 772, "sent": [(0, 6)]}, {773: 6}, 2)

    def test_pop(self):
        self.check(18432, {"sp": 766}, {767: 8}, {"sp": 767, "a": 8}, {}, 2)
        self.check(18432, {"sp": 766, "a": 3}, {}, {"sp": 767, "a": 0, "zero": True}, {}, 2)
        self.check(18432, {"sp": 772, "zero": True}, {773: 1}, {"sp": 773, "a": 1, "zero": False}, {}, 2)

    def test_sleep(self):
        self.check(19456, {"zero": True, "lets": True}, {}, {"asleep": True}, {}, 1)

    def test_let(self):
        for x in (1, 3, 1023):
            self.check(20480 + x, {}, {}, {"lets": True}, {}, 1)
            self.check(20480 + x, {"lets": True, "zero": True}, {}, {}, {}, 1)
        for x in (0, 2, 1022):
            self.check(20480 + x, {"lets": True}, {}, {"lets": False}, {}, 1)
            self.check(20480 + x, {}, {}, {}, {}, 1)

    def test_back(self):
        for word, zero in ((0, False), (1, True), (2, False), (65535, True), (32768, False)):
            changes = {"zero": zero, "pc": 300, "sp": 767, "lets": True}
            self.check(21504, {"sp": 765, "zero": not zero}, {766: word, 767: 300}, changes, {}, 3)
        changes = {"zero": True, "pc": 9, "sp": 773, "lets": True}
        self.check(21504, {"sp": 771, "lets": True}, {773: 9}, {**changes, "zero": False}, {}, 3)

    def test_half(self):
        self.check(22528, {"a": 65535}, {}, {"a": 32767}, {}, 1)
        self.check(22528, {"a": 1}, {}, {"a": 0, "zero": True}, {}, 1)
        self.check(22528, {"a": 0}, {}, {"a": 0, "zero": True}, {}, 1)
        self.check(22528, {"a": 2, "zero": True}, {}, {"a": 1, "zero": False}, {}, 1)

    def test_x_plays_no_part_where_it_is_not_told(self):
        things = {"a": 9, "b": 5, "sp": 700}
        words = {701: 3, 702: 4}
        for name in WITHOUT_X:
            told = []
            for x in (0, 1, 512, 768, 1023):
                board = set_up([OPS[name] * 1024 + x], things, words)
                self.assertEqual(board.turn(), "deed", name)
                told.append({**stands(board), 0: None})
            for one in told:
                self.assertEqual(one, told[0], name)

    def test_in_ram_too(self):
        board = set_up([], {"pc": 767}, {767: 1024 + 7})
        self.assertEqual(board.turn(), "deed")
        self.assertEqual((board.registers["a"], board.registers["pc"]), (7, 768))

    def test_a_deed_that_puts_over_itself_is_done(self):
        board = set_up([], {"pc": 700, "a": 5}, {700: 3072 + 700})
        self.assertEqual(board.turn(), "deed")
        self.assertEqual((board.memory.word_at(700), board.registers["pc"]), (5, 701))

    def test_call_puts_the_address_behind_ram(self):
        board = set_up([], {"pc": 767, "sp": 700}, {767: 15360 + 3})
        self.assertEqual(board.turn(), "deed")
        self.assertEqual((board.memory.word_at(700), board.registers["pc"]), (768, 3))

    def test_a_small_program(self):
        board = Board(typed("lit 5\nput 512\nloop:\nget 512\nifz end\nsub one\nput 512\ngo loop\none:\n"
                            "word 1\nend:\nmark")[0], [])
        turns = 0
        while board.turn() == "deed":
            turns += 1
        self.assertEqual(turns, 2 + 5 * 5 + 2)
        self.assertEqual(board.beat, 1 + 2 + 5 * (2 + 1 + 2 + 2 + 1) + 3)
        self.assertEqual(board.stopped, ("mark", 8))


class Stops(unittest.TestCase):
    """Point 12."""

    def check(self, board, stop):
        """The board is stopped so; nothing is done, no beat goes by, and further turns change nothing."""
        before = stands(board)
        for _ in range(4):
            self.assertEqual(board.turn(), "stopped")
            self.assertEqual(board.stopped, stop)
            self.assertIs(type(board.stopped), tuple)
            self.assertEqual(stands(board), {**before, "stopped": stop})

    def check_deed(self, word, things, stop):
        things = {"a": 5, "b": 6, "zero": True, **things}
        self.check(set_up([65535] * 40 + [word], {"pc": 40, **things}, {769: 9}), stop)

    def test_pc_at_a_place(self):
        for pc in (768, 771, 773):
            self.check(set_up([], {"pc": pc}, {pc: 1024}), ("far", pc, pc))

    def test_pc_beyond(self):
        for pc in (774, 1023, 1024, 65535):
            self.check(set_up([], {"pc": pc}), ("far", pc, pc))

    def test_mark(self):
        for word in (0, 1, 512, 1023):
            self.check_deed(word, {}, ("mark", 40))
        self.check(set_up([], {"pc": 600}), ("mark", 600))

    def test_none(self):
        for word in (23 * 1024, 23 * 1024 + 5, 24 * 1024, 32768, 65535):
            self.check_deed(word, {}, ("none", 40))

    def test_greatest_op_is_some(self):
        board = set_up([22 * 1024 + 1023])
        self.assertEqual(board.turn(), "deed")

    def test_far_by_x(self):
        for name in ("get", "put", "add", "sub", "and", "xor"):
            for x in (774, 1023):
                self.check_deed(OPS[name] * 1024 + x, {}, ("far", 40, x))

    def test_far_by_x_and_b(self):
        for name in ("getb", "putb"):
            self.check_deed(OPS[name] * 1024 + 773, {"b": 1}, ("far", 40, 774))
            self.check_deed(OPS[name] * 1024, {"b": 774}, ("far", 40, 774))
            self.check_deed(OPS[name] * 1024 + 1023, {"b": 65535}, ("far", 40, 66558))

    def test_x_and_b_do_not_go_round(self):
        self.check_deed(OPS["getb"] * 1024 + 600, {"b": 65535}, ("far", 40, 66135))

    def test_far_by_sp(self):
        for name in ("call", "push"):
            for sp in (774, 1023, 65535):
                self.check_deed(OPS[name] * 1024, {"sp": sp}, ("far", 40, sp))
        for name in ("ret", "pop", "back"):
            for sp in (773, 774, 65535):
                self.check_deed(OPS[name] * 1024, {"sp": sp}, ("far", 40, sp + 1))

    def test_back_looks_at_its_second_word_too(self):
        self.check_deed(OPS["back"] * 1024, {"sp": 772}, ("far", 40, 774))

    def test_far_below_nought(self):
        # No deed leads sp there, but where it stands there, it is far.
        board = Board([OPS["push"] * 1024], [])
        board.registers["sp"] = -1
        self.check(board, ("far", 0, -1))
        board = Board([OPS["pop"] * 1024], [])
        board.registers["sp"] = -2
        self.check(board, ("far", 0, -1))

    def test_flash(self):
        for x in (0, 40, 511):
            self.check_deed(OPS["put"] * 1024 + x, {}, ("flash", 40, x))
        self.check_deed(OPS["putb"] * 1024 + 500, {"b": 11}, ("flash", 40, 511))
        for name in ("call", "push"):
            for sp in (0, 511):
                self.check_deed(OPS[name] * 1024, {"sp": sp}, ("flash", 40, sp))

    def test_still(self):
        self.check_deed(OPS["put"] * 1024 + 772, {}, ("still", 40, 772))
        self.check_deed(OPS["putb"] * 1024 + 770, {"b": 2}, ("still", 40, 772))
        for name in ("call", "push"):
            self.check_deed(OPS[name] * 1024, {"sp": 772}, ("still", 40, 772))

    def test_an_empty_image(self):
        self.check(Board([], []), ("none", 0))

    def test_running_off_the_end_of_ram(self):
        board = set_up([], {"pc": 766}, {766: 1024, 767: 1024})
        self.assertEqual([board.turn() for _ in range(3)], ["deed", "deed", "stopped"])
        self.assertEqual(board.stopped, ("far", 768, 768))


if __name__ == "__main__":
    unittest.main()
