"""Points 32 to 35 (with 2 and 23): flash erased and written from outside."""

import random
import unittest
from unittest import mock

from boardheld.board import Board
from boardheld.errors import BoardError, Marked, NoImage, NoWord, Unerased
from boardheld.faults import keep, put_fault, unlike_words, waiting_faults
from boardheld.listing import typed
from boardheld.probe import Probe
from boardheld.programming import erase, load, load_cut, plan, unlike_pages, write
from boardheld.steps import frames_of
from boardheld.traces import profile, spent, trace

NO_NUMBERS = (True, False, None, "5", "", 5.0, [5], [], (5,), {}, b"5", object(), 1j, mock.ANY)
FULL = 65535


def stands(probe):
    """All that a probe tells."""
    names = ("a", "b", "pc", "sp", "zero", "lets", "asleep", "beat")
    told = [probe.register_of(name) for name in names]
    told += [probe.look(0, 774), probe.stop_told(), probe.out(), probe.turns(), probe.marks(), probe.wear()]
    return told + [probe.watches(), frames_of(probe), trace(probe), profile(probe), spent(probe), waiting_faults(probe)]


def worn(pages):
    """A wear of these pages, a dict of how often."""
    return [pages.get(page, 0) for page in range(16)]


class Refusing(unittest.TestCase):
    def refused(self, error, probe, asked, *things, **fields):
        """What is refused so changes nothing."""
        before = stands(probe)
        with self.assertRaises(error) as caught:
            asked(probe, *things)
        self.assertIs(type(caught.exception), error, things)
        self.assertEqual(error.__bases__, (BoardError,))
        self.assertEqual(vars(caught.exception), fields)
        self.assertEqual(stands(probe), before, things)


class Erase(Refusing):
    def test_each_page(self):
        image = list(range(1, 513))
        for page in range(16):
            probe = Probe(list(image), [])
            self.assertIsNone(erase(probe, page))
            due = image[:page * 32] + [FULL] * 32 + image[page * 32 + 32:]
            self.assertEqual(probe.look(0, 774), due + [0] * 262)
            self.assertEqual(probe.wear(), worn({page: 1}))
            erase(probe, page)
            self.assertEqual(probe.look(0, 512), due)
            self.assertEqual(probe.wear(), worn({page: 2}))

    def test_what_is_no_page(self):
        probe = Probe([1, 2], [])
        probe.mark(0, False)
        for page in (*NO_NUMBERS, -1, 16, 512, 10 ** 30):
            self.refused(NoWord, probe, erase, page)

    def test_marked(self):
        probe = Probe(list(range(1, 513)), [])
        for address in (40, 63, 64, 31, 700):
            probe.mark(address, False)
        self.refused(Marked, probe, erase, 0, address=31)
        self.refused(Marked, probe, erase, 1, address=40)
        self.refused(Marked, probe, erase, 2, address=64)
        erase(probe, 3)
        erase(probe, 15)
        probe.unmark(40)
        self.refused(Marked, probe, erase, 1, address=63)
        probe.unmark(63)
        erase(probe, 1)
        self.assertEqual(probe.wear(), worn({1: 3, 3: 1, 15: 1}))
        self.assertEqual(probe.marks(), [(31, "soft"), (64, "soft"), (700, "soft")])

    def test_marks_at_the_ends_of_a_page(self):
        for address, page in ((32, 1), (63, 1), (480, 15), (511, 15), (0, 0)):
            probe = Probe([5], [])
            probe.mark(address, False)
            self.refused(Marked, probe, erase, page, address=address)
            for other in {0, 1, 2, 14, 15} - {page}:
                erase(probe, other)

    def test_hard_marks_and_watches_stand(self):
        probe = Probe([1], [])
        probe.mark(0, True)
        probe.mark(31, True)
        probe.watch(1, 0, 511, "w")
        erase(probe, 0)
        self.assertEqual(probe.marks(), [(0, "hard"), (31, "hard")])
        self.assertEqual(probe.watches(), [None, (0, 511, "w")])

    def test_the_board_does_next_what_then_stands_there(self):
        probe = Probe(typed("lit 5\nlit 6")[0], [])
        probe.go(1)
        erase(probe, 0)
        self.assertEqual(probe.register_of("beat"), 1)
        self.assertEqual(probe.go(3), (("none", 1), []))
        self.assertEqual((probe.register_of("beat"), probe.turns()), (1, 1))

    def test_by_name(self):
        probe = Probe([1], [])
        self.assertIsNone(erase(page=0, probe=probe))
        self.assertEqual(probe.look(0, 1), [FULL])


class Write(Refusing):
    def test_first_and_last_addresses(self):
        probe = Probe([], [])
        self.assertIsNone(write(probe, 0, [1, 2, 3]))
        write(probe, 511, [4])
        write(probe, 30, [5, 6, 7, 8])
        self.assertEqual(probe.look(0, 5), [1, 2, 3, FULL, FULL])
        self.assertEqual(probe.look(29, 6), [FULL, 5, 6, 7, 8, FULL])
        self.assertEqual(probe.look(510, 3), [FULL, 4, 0])
        self.assertEqual(probe.wear(), worn({}))
        self.assertEqual(probe.register_of("beat"), 0)

    def test_all_of_flash(self):
        probe = Probe([], [])
        words = list(range(512))
        write(probe, 0, words)
        self.assertEqual(probe.look(0, 774), words + [0] * 262)
        words[3] = 9
        self.assertEqual(probe.look(3, 1), [3])

    def test_none_at_all(self):
        probe = Probe([1, 2], [])
        before = stands(probe)
        for address in (0, 1, 511):
            self.assertIsNone(write(probe, address, []))
        probe.mark(0, False)
        write(probe, 0, [])
        probe.unmark(0)
        self.assertEqual(probe.look(0, 774), before[8])
        self.refused(NoWord, probe, write, 512, [])

    def test_bits_become_nought_alone(self):
        probe = Probe([FULL, 0b1010, 0, 7], [])
        write(probe, 0, [0b1100, 0b1000, 0, 7])
        self.assertEqual(probe.look(0, 4), [0b1100, 0b1000, 0, 7])
        self.refused(Unerased, probe, write, 0, [0b1101], address=0)
        self.refused(Unerased, probe, write, 0, [0b0100, 0b1001], address=1)
        self.refused(Unerased, probe, write, 0, [0, 0, 1, 8], address=2)
        self.refused(Unerased, probe, write, 2, [0, 8, FULL], address=3)
        self.refused(Unerased, probe, write, 1, [8, 32768], address=2)
        write(probe, 3, [3, FULL])
        self.assertEqual(probe.look(0, 5), [0b1100, 0b1000, 0, 3, FULL])

    def test_refused_addresses_and_words(self):
        probe = Probe([0] * 512, [])
        probe.mark(5, False)
        for address in (*NO_NUMBERS, -1, 512, 700, 773, 1023, 10 ** 30):
            self.refused(NoWord, probe, write, address, [])
            self.refused(NoWord, probe, write, address, [5])
        for word in (*NO_NUMBERS, -1, 65536, 10 ** 30):
            self.refused(NoWord, probe, write, 5, [word])
            self.refused(NoWord, probe, write, 5, [1, word])
        self.refused(NoWord, probe, write, 511, [0, 0])
        self.refused(NoWord, probe, write, 5, [0] * 508)
        self.refused(NoWord, probe, write, 0, [0] * 513)
        self.refused(Marked, probe, write, 5, [0] * 507, address=5)
        for words in (None, 5, True, object(), 1.5):
            self.refused(NoWord, probe, write, 5, words)

    def test_marked_is_ahead_of_unerased(self):
        probe = Probe([0] * 64, [])
        for address in (9, 6, 40):
            probe.mark(address, False)
        probe.mark(5, True)
        self.refused(Marked, probe, write, 4, [1, 1, 1, 1, 1, 1], address=6)
        self.refused(Marked, probe, write, 7, [0, 0, 0], address=9)
        self.refused(Marked, probe, write, 7, [0] * 100, address=9)
        self.refused(Marked, probe, write, 40, [0], address=40)
        self.refused(Unerased, probe, write, 4, [0, 1], address=5)
        write(probe, 4, [0, 0])
        write(probe, 7, [0, 0])
        write(probe, 10, [0] * 30)
        self.refused(NoWord, probe, write, 4, [0, 0, 70000])

    def test_the_board_does_next_what_then_stands_there(self):
        probe = Probe(typed("lit 5")[0], [])
        probe.go(1)
        write(probe, 1, typed("lit 6\nput 773")[0])
        self.assertEqual(probe.go(2), (("turns",), []))
        self.assertEqual(probe.out(), [(2, 6)])

    def test_by_name(self):
        probe = Probe([], [])
        self.assertIsNone(write(words=[5], address=3, probe=probe))
        self.assertEqual(probe.look(2, 3), [FULL, 5, FULL])


def steps_by(words, image):
    """The steps due, by words and image, written another way than the program does."""
    due = image + [FULL] * (512 - len(image))
    steps = []
    for page in range(16):
        now = words[page * 32:page * 32 + 32]
        if any(due[page * 32 + k] | now[k] != now[k] for k in range(32)):
            steps.append(("erase", page))
            now = [FULL] * 32
        last = None
        for k in range(32):
            address = page * 32 + k
            if due[address] == now[k]:
                continue
            if last == address - 1:
                steps[-1][2].append(due[address])
            else:
                steps.append(("write", address, [due[address]]))
            last = address
    return steps


class Plan(Refusing):
    def test_none_is_due(self):
        for image in ([], [5], [FULL], list(range(512)), [FULL] * 512):
            probe = Probe(list(image), [])
            self.assertEqual(plan(probe, image), [])
            self.assertEqual(load(probe, image), [])
            self.assertEqual(unlike_pages(probe, image), [])
            self.assertEqual(probe.wear(), worn({}))
        # What is left out of an image is 65,535 there.
        self.assertEqual(plan(Probe([5, FULL], []), [5]), [])
        self.assertEqual(plan(Probe([5], []), [5, FULL, FULL]), [])

    def test_without_erasing(self):
        probe = Probe([7, 7, 7], [])
        self.assertEqual(plan(probe, [7, 5, 3]), [("write", 1, [5, 3])])
        self.assertEqual(plan(probe, [1, 7, 3, 9]), [("write", 0, [1]), ("write", 2, [3, 9])])
        self.assertEqual(plan(probe, [7, 7, 7, 0]), [("write", 3, [0])])

    def test_with_erasing(self):
        probe = Probe([7, 7, 7], [])
        self.assertEqual(plan(probe, [7, 8, 7]), [("erase", 0), ("write", 0, [7, 8, 7])])
        self.assertEqual(plan(probe, []), [("erase", 0)])
        self.assertEqual(plan(probe, [7, 7]), [("erase", 0), ("write", 0, [7, 7])])
        self.assertEqual(plan(probe, [7, FULL, 3]), [("erase", 0), ("write", 0, [7]), ("write", 2, [3])])

    def test_runs_end_at_the_ends_of_pages(self):
        probe = Probe([], [])
        image = [FULL] * 30 + [1, 2, 3, 4] + [FULL] * 28 + [5, 6, 7]
        steps = [("write", 30, [1, 2]), ("write", 32, [3, 4]), ("write", 62, [5, 6]), ("write", 64, [7])]
        self.assertEqual(plan(probe, image), steps)

    def test_runs_parted_by_one_word_that_is_as_due(self):
        probe = Probe([FULL, 9, FULL, 9, 9], [])
        self.assertEqual(plan(probe, [1, 9, 2, 9, 9, 3]), [("write", 0, [1]), ("write", 2, [2]), ("write", 5, [3])])

    def test_all_pages(self):
        probe = Probe([0] * 512, [])
        steps = []
        for page in range(16):
            steps += [("erase", page), ("write", page * 32, list(range(page * 32 + 1, page * 32 + 33)))]
        self.assertEqual(plan(probe, list(range(1, 513))), steps)
        self.assertEqual(plan(probe, []), [("erase", page) for page in range(16)])

    def test_an_odd_page_alone_is_erased(self):
        image = list(range(512))
        probe = Probe(list(image), [])
        image[100] = FULL
        image[200] = 0
        steps = [("erase", 3), ("write", 96, image[96:100]), ("write", 101, image[101:128]), ("write", 200, [0])]
        self.assertEqual(plan(probe, image), steps)
        self.assertEqual(unlike_pages(probe, image), [3, 6])

    def test_it_does_none(self):
        probe = Probe([1, 2, 3], [])
        before = stands(probe)
        image = [4, 5]
        steps = plan(probe, image)
        steps[1][2].append(9)
        steps.append(5)
        self.assertEqual(plan(probe, image), [("erase", 0), ("write", 0, [4, 5])])
        self.assertEqual(image, [4, 5])
        self.assertEqual(stands(probe), before)

    def test_many(self):
        for seed in range(150):
            chance = random.Random(seed)
            few = chance.choice([[0, FULL], [0, 1, 2, 3, FULL], [7, 5, FULL]])
            words = [chance.choice(few) for _ in range(chance.choice([0, 3, 64, 65, 512]))]
            image = [word if chance.random() < 0.8 else chance.choice(few) for word in words]
            image = image[:chance.randrange(520)]
            probe = Probe(list(words), [])
            due = steps_by(probe.look(0, 512), image)
            self.assertEqual(plan(probe, image), due)
            pages = sorted({step[1] if step[0] == "erase" else step[1] // 32 for step in due})
            self.assertEqual(unlike_pages(probe, image), pages)
            self.assertEqual(load(probe, image), due)
            self.assertEqual(probe.look(0, 512), Probe(image, []).look(0, 512))
            self.assertEqual(probe.wear(), worn({step[1]: 1 for step in due if step[0] == "erase"}))
            self.assertEqual(plan(probe, image), [])

    def test_no_image(self):
        probe = Probe([1, 2, 3], [])
        probe.mark(1, False)
        wrong = [[0] * 513, [65536], [-1], None, 5, "ab", True, {}, object()]
        wrong += [[1, thing] for thing in NO_NUMBERS]
        for image in wrong:
            for asked in (plan, load, unlike_pages):
                self.refused(NoImage, probe, asked, image)
            self.refused(NoImage, probe, load_cut, image, None, None)

    def test_marked_is_ahead_of_all_but_no_image(self):
        probe = Probe([1, 2, 3], [])
        for address in (511, 300):
            probe.mark(address, False)
        for image in ([1, 2, 3], [4], []):
            self.refused(Marked, probe, plan, image, address=300)
            self.refused(Marked, probe, load, image, address=300)
            self.refused(Marked, probe, load_cut, image, -1, None, address=300)
        self.assertEqual(unlike_pages(probe, [4]), [0])
        probe.unmark(300)
        self.refused(Marked, probe, load, [], address=511)
        probe.unmark(511)
        probe.mark(512, False)
        probe.mark(0, True)
        self.assertEqual(load(probe, []), [("erase", 0)])
        self.assertEqual(probe.marks(), [(0, "hard"), (512, "soft")])

    def test_unlike_pages_look_at_own_words(self):
        probe = Probe([1, 2, 3] + [FULL] * 40 + [9], [])
        probe.mark(1, False)
        probe.mark(43, False)
        self.assertEqual(unlike_pages(probe, [1, 2, 3] + [FULL] * 40 + [9]), [])
        self.assertEqual(unlike_pages(probe, [1, 0, 3] + [FULL] * 40 + [9]), [0])
        self.assertEqual(unlike_pages(probe, []), [0, 1])
        self.assertEqual(unlike_pages(probe, [0] * 512), list(range(16)))

    def test_by_names(self):
        probe = Probe([5], [])
        self.assertEqual(plan(image=[1], probe=probe), [("write", 0, [1])])
        self.assertEqual(unlike_pages(image=[1], probe=probe), [0])
        self.assertIsNone(load_cut(done=1, at=0, image=[1], probe=probe))
        self.assertEqual(load(image=[0], probe=probe), [("write", 0, [0])])


class Load(Refusing):
    def test_nothing_else_is_changed(self):
        image = typed("call 3\nmark\nmark\nlit 7\nput 773\nput 600\nmark")[0]
        probe = Probe(list(image), [(9, 1)])
        probe.mark(5, True)
        probe.watch(0, 700, 701, "rw")
        keep(probe)
        put_fault(probe, ("bit", 900, 3, 2))
        probe.go(3)
        before = stands(probe)
        steps = load(probe, image[:5] + [22 * 1024])
        self.assertEqual(steps, [("erase", 0), ("write", 0, image[:5] + [22 * 1024])])
        after = stands(probe)
        self.assertEqual(after[8], image[:5] + [22 * 1024] + [FULL] * 506 + before[8][512:])
        self.assertEqual(after[13], worn({0: 1}))
        self.assertEqual(after[:8] + after[9:13] + after[14:], before[:8] + before[9:13] + before[14:])
        self.assertEqual(unlike_words(probe, 0)[0], (5, 3 * 1024 + 600, 22 * 1024))
        self.assertEqual(probe.go(1), (("turns",), []))
        self.assertEqual(probe.register_of("a"), 3)

    def test_it_tells_its_own_lists(self):
        probe = Probe([], [])
        image = [1, 2]
        steps = load(probe, image)
        steps[0][2][0] = 9
        image[1] = 9
        self.assertEqual(probe.look(0, 3), [1, 2, FULL])

    def test_as_a_board_made_of_it(self):
        image = typed("lit 3\nput 773\nmark")[0]
        probe, board = Probe([0] * 512, []), Board(image, [])
        load(probe, image)
        probe.go(9)
        for _ in range(9):
            board.turn()
        self.assertEqual((probe.stop_told(), probe.out()), (board.stopped, board.sent))

    def test_wear_tells_what_all_erasing_cost(self):
        probe = Probe([0] * 70, [])
        load(probe, [1] * 70)
        load(probe, [0] * 70)
        load(probe, [1] * 33)
        probe.mark(40, False)
        probe.unmark(40)
        erase(probe, 9)
        self.assertEqual(probe.wear(), worn({0: 2, 1: 3, 2: 2, 9: 1}))


class Cut(Refusing):
    WORDS = [0] * 40
    IMAGE = [1, FULL, 2] + [FULL] * 29 + [0, 0, 0, 9]

    def test_the_steps(self):
        steps = [("erase", 0), ("write", 0, [1]), ("write", 2, [2]), ("erase", 1), ("write", 32, [0, 0, 0, 9])]
        self.assertEqual(plan(Probe(list(self.WORDS), []), self.IMAGE), steps)

    def cut(self, at, done):
        probe = Probe(list(self.WORDS), [])
        self.assertIsNone(load_cut(probe, self.IMAGE, at, done))
        told = probe.look(0, 512), probe.wear()
        self.assertEqual(probe.register_of("beat"), 0)
        load(probe, self.IMAGE)
        self.assertEqual(probe.look(0, 512), Probe(self.IMAGE, []).look(0, 512))
        return told

    def test_at_each_step(self):
        rest = [FULL] * 472
        for done in (0, 1, 31, 32):
            first = [FULL] * done + [0] * (40 - done)
            self.assertEqual(self.cut(0, done), (first + rest, worn({0: 1})))
        blank = [FULL] * 32 + [0] * 8
        self.assertEqual(self.cut(1, 0), (blank + rest, worn({0: 1})))
        one = [1] + blank[1:]
        self.assertEqual(self.cut(1, 1), (one + rest, worn({0: 1})))
        self.assertEqual(self.cut(2, 0), (one + rest, worn({0: 1})))
        two = [1, FULL, 2] + blank[3:]
        self.assertEqual(self.cut(2, 1), (two + rest, worn({0: 1})))
        for done in (0, 3, 8, 9, 32):
            most = min(done, 8)
            both = two[:32] + [FULL] * most + [0] * (8 - most)
            self.assertEqual(self.cut(3, done), (both + rest, worn({0: 1, 1: 1})))
        for done in range(5):
            all_but = two[:32] + [0, 0, 0, 9][:done] + [FULL] * (8 - done)
            self.assertEqual(self.cut(4, done), (all_but + rest, worn({0: 1, 1: 1})))

    def test_refused_numbers(self):
        probe = Probe(list(self.WORDS), [])
        for number in (*NO_NUMBERS, -1, 5, 10 ** 30):
            self.refused(NoWord, probe, load_cut, self.IMAGE, number, 0)
        for at, most in enumerate((32, 1, 1, 32, 4)):
            for done in (*NO_NUMBERS, -1, most + 1, 10 ** 30):
                self.refused(NoWord, probe, load_cut, self.IMAGE, at, done)

    def test_no_steps_are_due(self):
        probe = Probe([1, 2], [])
        self.refused(NoWord, probe, load_cut, [1, 2], 0, 0)

    def test_behind_each_cut_a_load_makes_flash_the_image(self):
        for seed in range(40):
            chance = random.Random(seed)
            words = [chance.choice([0, 1, 3, FULL]) for _ in range(chance.randrange(513))]
            image = [chance.choice([0, 1, 3, FULL]) for _ in range(chance.randrange(513))]
            probe = Probe(words, [])
            for _ in range(4):
                steps = plan(probe, image)
                if not steps:
                    break
                at = chance.randrange(len(steps))
                size = 32 if steps[at][0] == "erase" else len(steps[at][2])
                load_cut(probe, image, at, chance.randrange(size + 1))
            load(probe, image)
            self.assertEqual(probe.look(0, 512), Probe(image, []).look(0, 512))


if __name__ == "__main__":
    unittest.main()
