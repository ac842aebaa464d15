"""Point 44 (with 2 and 16): where two boards of two images part."""

import random
import unittest
from unittest import mock

from boardheld.board import Board
from boardheld.errors import BoardError, NoImage
from boardheld.listing import typed
from boardheld.parting import first_parting

from tests.test_held import BUSY, board_stands, some_line, some_word


def parts(text, other, line=(), most=2000):
    return first_parting(typed(text)[0], typed(other)[0], list(line), most)


class Parting(unittest.TestCase):
    def test_alike(self):
        for text in ("", "lit 5", "loop:\ngo loop", BUSY, "sleep"):
            for most in (0, 1, 2000):
                self.assertIsNone(parts(text, text, [(5, 1)], most))
        self.assertIsNone(first_parting([5], [5, 65535], [], 9))

    def test_words_that_are_never_reached_nor_read(self):
        self.assertIsNone(parts("loop:\nget 3\ngo loop\nlit 7\nword 9", "loop:\nget 3\ngo loop\nlit 8\nword 9"))
        self.assertIsNone(parts("mark\nlit 1", "mark\nlit 2"))
        self.assertIsNone(parts("lit 5\nmark\nlit 1", "lit 5\nmark"))
        # Read, but by nothing that tells of it.
        self.assertEqual(parts("loop:\nget 3\ngo loop\nlit 7\nword 9", "loop:\nget 3\ngo loop\nlit 7\nword 8"), 0)

    def test_words_that_do_the_same(self):
        self.assertIsNone(parts("lit 5\ngo 2\nmark", "lit 5\ngo 2\nmark\nmark"))
        self.assertIsNone(parts("push\nmark", "push\nmark"))
        self.assertIsNone(parts("tob\nword 10241\nmark", "word 10241\ntob\nmark"))

    def test_at_the_first_turn(self):
        self.assertEqual(parts("lit 5", "lit 6"), 0)
        self.assertEqual(parts("lit 5", "lit 6", most=1), 0)
        self.assertIsNone(parts("lit 5", "lit 6", most=0))

    def test_by_each_thing(self):
        ahead = "lit 3\n"
        cases = (
            ("lit 5", "lit 4"), ("tob", "go 2"), ("go 3", "go 2"), ("push", "put 767"), ("let 1", "let 2"),
            ("sleep", "let 0"), ("lit 0", "lit 3"), ("put 600", "put 601"), ("put 769", "put 768"),
            ("put 771", "put 600"),
            ("put 773", "put 600"), ("mark", "word 65535"), ("mark", "lit 3"), ("mark", "go 1"), ("get 774", "get 775"),
            ("put 600", "tob"), ("call 2", "go 2"), ("half", "swap"), ("ret", "go 0"), ("back", "ret"),
        )
        for one, other in cases:
            with self.subTest(one=one, other=other):
                self.assertEqual(parts(ahead + one, ahead + other), 1)
                self.assertEqual(parts(ahead + other, ahead + one), 1)
                self.assertEqual(parts(ahead + one, ahead + other, most=2), 1)
                self.assertIsNone(parts(ahead + one, ahead + other, most=1))

    def test_by_zero_alone(self):
        # swap gives a its own word, and zero; tob leaves it.
        self.assertEqual(parts("swap\nlit 0", "tob\nlit 0"), 0)

    def test_by_the_beat_alone(self):
        self.assertEqual(parts("lit 0\nget 600", "lit 0\nlit 0"), 1)

    def test_by_what_was_sent_alone(self):
        image = typed("lit 5\nput 773\nput 773\nmark")[0]
        other = typed("lit 5\nput 773\nput 600\nmark")[0]
        self.assertEqual(first_parting(image, other, [], 9), 2)
        # The words of ram and places come to the same: line out has 5, count has 0 either way.
        self.assertEqual(parts("put 773\nmark", "put 768\nmark"), 0)

    def test_by_the_sort_of_a_turn_alone(self):
        # An interrupt's beginning, and deeds that come to the same stand, but as to pc: parts by the sort at once.
        text = "go 3\nlit 1\nlit 1\nlit 1\nput 769\nput 771\nlet 1\nlit 1\nlit 1"
        other = text.replace("let 1", "let 0")
        self.assertEqual(parts(text, other), 4)

    def test_turns_asleep_are_turns(self):
        text = "go 3\nlit 5\nmark\nlit 1\nput 771\nlit 30\nput 769\nlet 1\nsleep"
        other = text.replace("lit 5", "lit 6")
        self.assertEqual(parts(text, other), 34)
        self.assertIsNone(parts(text, other, most=34))
        self.assertEqual(parts(text, other, most=35), 34)

    def test_the_line_is_one_for_both(self):
        text, other = "loop:\nget 772\nifz loop\nlit 5", "loop:\nget 772\nifz loop\nlit 6"
        self.assertIsNone(parts(text, other))
        self.assertEqual(parts(text, other, [(9, 2)]), 8)

    def test_most(self):
        text = "loop:\nget 600\nadd one\nput 600\ngo loop\none:\nword 1"
        other = text.replace("word 1", "word 2")
        self.assertEqual(parts(text, other), 1)
        late = "lit 100\nput 600\nloop:\nget 600\nsub one\nput 600\nifz done\ngo loop\ndone:\nlit {}\none:\nword 1"
        self.assertEqual(parts(late.format(1), late.format(2)), 501)
        self.assertEqual(parts(late.format(1), late.format(2), most=502), 501)
        self.assertIsNone(parts(late.format(1), late.format(2), most=501))

    def test_what_is_no_image_or_no_line(self):
        wrong = ([65536], [-1], [0] * 513, [True], [None], None, 5, "ab", [1.0], [mock.ANY])
        for image in wrong:
            for asked in (lambda: first_parting(image, [], [], 5), lambda: first_parting([], image, [], 5)):
                with self.assertRaises(NoImage) as caught:
                    asked()
                self.assertEqual(type(caught.exception).__bases__, (BoardError,))
        for line in ([(0, 0)], [(1, 4)], [(2, 1), (2, 1)], None, [5], [(1, True)], [(True, 1)]):
            with self.assertRaises(NoImage):
                first_parting([], [], line, 0)

    def test_what_is_handed_in_is_left(self):
        image, other, line = [1, 2], [1, 3], [(5, 1)]
        self.assertEqual(first_parting(image=image, other=other, line=line, most=9), None)
        self.assertEqual((image, other, line), ([1, 2], [1, 3], [(5, 1)]))

    def test_against_boards(self):
        parted = 0
        for seed in range(150):
            chance = random.Random(seed)
            image = [some_word(chance) for _ in range(30)]
            other = list(image)
            other[chance.randrange(6)] = some_word(chance)
            line = some_line(chance)
            due = self.parting(Board(image, line), Board(other, line), 200)
            self.assertEqual(first_parting(image, other, line, 200), due)
            self.assertEqual(first_parting(other, image, line, 200), due)
            if due is not None:
                parted += 1
                self.assertIsNone(first_parting(image, other, line, due))
                self.assertEqual(first_parting(image, other, line, due + 1), due)
        self.assertGreater(parted, 20)
        self.assertLess(parted, 140)

    def parting(self, one, two, most):
        for number in range(most):
            sorts = one.turn(), two.turn()
            stood = [board_stands(board) for board in (one, two)]
            for row in stood:
                del row[3][:512]
            if sorts[0] != sorts[1] or stood[0] != stood[1]:
                return number
        return None


if __name__ == "__main__":
    unittest.main()
