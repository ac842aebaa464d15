"""Points 51 to 53 (with 2 and 4): a desk asked from afar, by letters."""

import random
import unittest

from boardheld.errors import BoardError, NoImage, NoLetter, Waiting
from boardheld.link import Far, Near, letter_of, opened
from boardheld.listing import typed
from boardheld.logs import Desk

from tests.test_held import BUSY, board_stands

LINE = [(beat, beat % 4) for beat in range(3, 900, 7)]


def check_of(signs):
    total = 0
    for place in range(len(signs)):
        total += ord(signs[place]) * (place + 1)
    return total % 9973


class Letters(unittest.TestCase):
    def refused(self, kind, letter):
        with self.assertRaises(NoLetter) as caught:
            opened(kind, letter)
        self.assertIs(type(caught.exception), NoLetter)
        self.assertEqual(NoLetter.__bases__, (BoardError,))

    def test_by_hand(self):
        # q, 1, a blank, a: 113 + 2 * 49 + 3 * 32 + 4 * 97.
        self.assertEqual(letter_of("q", 1, "a"), "q1 695 a")
        self.assertEqual(opened("q", "q1 695 a"), (1, "a"))
        # a, 0, a blank, no text: 97 + 2 * 48 + 3 * 32.
        self.assertEqual(letter_of("a", 0, ""), "a0 289 ")
        self.assertEqual(opened("a", "a0 289 "), (0, ""))
        self.assertEqual(letter_of(text="a", number=1, kind="q"), "q1 695 a")
        self.assertEqual(opened(letter="q1 695 a", kind="q"), (1, "a"))

    def test_both_kinds_numbers_and_texts(self):
        texts = ("", " ", "  ", "a", "look 0 5", " a ", "\n", "a\nb\n", "q1 695 a", "0", "5 5", "~" * 300, "; -",
            "refused norow")
        for kind in ("q", "a"):
            for number in (0, 1, 9, 10, 99, 12345, 99999):
                for text in texts:
                    letter = letter_of(kind, number, text)
                    self.assertEqual(letter, f"{kind}{number} {check_of(f'{kind}{number} {text}')} {text}")
                    self.assertEqual(opened(kind, letter), (number, text))
                    self.refused("a" if kind == "q" else "q", letter)

    def test_what_is_no_letter(self):
        for letter in (
            "", "q", " ", "q1", "q1 ", "q1 695", "q1 695a", "1 695 a", "q 695 a", "Q1 695 a", "q1 695 b", "q1 694 a",
            "q1 696 a",
            "q2 695 a", "q1  695 a", "q1 695  a", " q1 695 a", "q1 695 a ", "q01 695 a", "q1 0695 a", "q1 00695 a",
            "q+1 695 a",
            "q1 +695 a", "q-1 695 a", "q1 -695 a", "q1 695\ta", "q1\n695 a", "q1 10668 a", "qq1 695 a", "q1 x a",
            "qx 695 a",
            "q1.0 695 a", "q1 695.0 a", "a1 695 a", "q1 695 A", "q1 695 aa", "695 q1 a", "q1 a", "q1 a 695", "b1 695 a",
        ):
            self.refused("q", letter)

    def test_other_kinds(self):
        for kind in ("b", "Q", "", "qa", "1"):
            self.refused(kind, letter_of(kind, 1, "a"))
            self.refused(kind, letter_of("q", 1, "a"))

    def test_figures_with_a_nought_ahead_and_numbers_too_great(self):
        for number in ("00", "01", "000", "00001", "100000", "123456", "", "x", "1x", "-1", "+1", " 1", "1.0",
            "\u0663"):
            text = "a"
            letter = f"q{number} {check_of(f'q{number} {text}')} {text}"
            self.refused("q", letter)
        signs = "q1 \x00"
        for text in ("a", "ab", "abc"):
            check = check_of(f"q1 {text}")
            for wrong in (f"0{check}", f"{check + 9973}", f"+{check}", f"{check}.", f"{check} ", ""):
                self.refused("q", f"q1 {wrong} {text}")
        self.assertEqual(opened("q", f"q1 {check_of(signs)} {signs[3:]}"), (1, "\x00"))

    def test_a_check_of_nought(self):
        found, chance = 0, random.Random(1)
        while found < 3:
            text = "".join(chance.choices("look at this 5 times", k=16))
            if check_of(f"q7 {text}") == 0:
                found += 1
                self.assertEqual(letter_of("q", 7, text), f"q7 0 {text}")
                self.assertEqual(opened("q", f"q7 0 {text}"), (7, text))
                self.refused("q", f"q7 00 {text}")
                self.refused("q", f"q7  {text}")
                self.refused("q", f"q7 9973 {text}")

    def test_one_sign_otherwise(self):
        letter = letter_of("q", 42, "look 600 3")
        for place in range(letter.index("look"), len(letter)):
            for number in range(32, 127):
                sign = "\n" if number == 32 and letter[place] == " " else f"{number:c}"
                if sign == letter[place]:
                    continue
                self.refused("q", letter[:place] + sign + letter[place + 1:])

    def test_two_neighbours_exchanged(self):
        for text in ("look 600 3", "abcdefgh", "back 12", " x ", "poke 512 65535"):
            letter = letter_of("a", 999, text)
            first = len(letter) - len(text)
            for place in range(first, len(letter) - 1):
                one, other = letter[place], letter[place + 1]
                if one != other:
                    self.refused("a", letter[:place] + other + one + letter[place + 2:])

    def test_long_texts(self):
        chance = random.Random(5)
        text = "".join(f"{chance.randrange(32, 127):c}" for _ in range(8900))
        letter = letter_of("q", 5, text)
        self.assertEqual(opened("q", letter), (5, text))
        first = len(letter) - len(text)
        for place in chance.sample(range(first, len(letter) - 1), 60):
            sign = "x" if letter[place] != "x" else "y"
            self.refused("q", letter[:place] + sign + letter[place + 1:])
            if letter[place] != letter[place + 1]:
                self.refused("q", letter[:place] + letter[place + 1] + letter[place] + letter[place + 2:])


class FarEnd(unittest.TestCase):
    def far(self):
        return Far(typed(BUSY)[0], list(LINE))

    def hear(self, far, number, text):
        return far.hear(letter_of("q", number, text))

    def test_in_order(self):
        far, desk = self.far(), Desk(typed(BUSY)[0], list(LINE))
        for number, row in enumerate(("go 30", "turns", "what", "poke 5 5", "", "back 3", "sent", "keep", "look 0 20"),
            1):
            self.assertEqual(self.hear(far, number, row), letter_of("a", number, desk.say(row)))
            self.assertEqual(far.desk().log(), desk.log())
        self.assertEqual(board_stands(far.desk().plain()), board_stands(desk.plain()))

    def test_its_desk(self):
        far = self.far()
        self.assertIsInstance(far.desk(), Desk)
        self.assertIs(far.desk(), far.desk())
        far.desk().say("poke 600 5")
        self.assertEqual(self.hear(far, 1, "look 600 1"), letter_of("a", 1, "5"))
        self.assertEqual(far.desk().log(), [("poke 600 5", "done"), ("look 600 1", "5")])

    def test_the_last_one_again(self):
        far = self.far()
        first = self.hear(far, 1, "keep")
        self.assertEqual(first, letter_of("a", 1, "0"))
        for text in ("keep", "go 5", "", "what"):
            self.assertEqual(self.hear(far, 1, text), first)
        self.assertEqual(far.desk().log(), [("keep", "0")])
        second = self.hear(far, 2, "keep")
        self.assertEqual(second, letter_of("a", 2, "1"))
        self.assertIsNone(self.hear(far, 1, "keep"))
        self.assertEqual(self.hear(far, 2, "turns"), second)
        self.assertEqual(len(far.desk().log()), 2)
        # The kept letter is told, whatever the desk has been told besides.
        far.desk().say("keep")
        self.assertEqual(self.hear(far, 2, "keep"), second)

    def test_from_behind_and_from_ahead(self):
        far = self.far()
        for number in (0, 2, 3, 99999):
            self.assertIsNone(self.hear(far, number, "keep"))
        self.hear(far, 1, "keep")
        self.hear(far, 2, "keep")
        self.hear(far, 3, "keep")
        for number in (0, 1, 2, 5, 6, 99999):
            self.assertIsNone(self.hear(far, number, "keep"))
        self.assertEqual(self.hear(far, 4, "keep"), letter_of("a", 4, "3"))
        self.assertEqual(len(far.desk().log()), 4)

    def test_what_is_no_letter_of_kind_q(self):
        far = self.far()
        letter = letter_of("q", 1, "keep")
        for other in (letter_of("a", 1, "keep"), letter + " ", letter[1:], "", "keep", letter.replace("e", "f"),
            "q01" + letter[2:]):
            self.assertIsNone(far.hear(other))
        self.assertEqual(far.desk().log(), [])
        self.assertEqual(far.hear(letter=letter), letter_of("a", 1, "0"))
        self.assertIsNone(far.hear(letter_of("a", 1, "0")))

    def test_no_image(self):
        for image, line in (([65536], []), ([], [(0, 0)]), (None, []), ([0] * 513, [])):
            with self.assertRaises(NoImage):
                Far(image, line)
        self.assertEqual(Far(line=[], image=[5]).desk().say("look 0 1"), "5")


class NearEnd(unittest.TestCase):
    def waiting(self, near):
        letter = near.again()
        with self.assertRaises(Waiting) as caught:
            near.ask("turns")
        self.assertEqual(type(caught.exception).__bases__, (BoardError,))
        self.assertEqual(near.again(), letter)

    def test_asked_in_order(self):
        near = Near()
        self.assertEqual((near.again(), near.told()), (None, []))
        for number, row in enumerate(("turns", "", "what\nelse", " x"), 1):
            letter = letter_of("q", number, row)
            self.assertEqual(near.ask(row=row), letter)
            self.assertEqual([near.again(), near.again()], [letter, letter])
            self.waiting(near)
            self.assertEqual(near.hear(letter=letter_of("a", number, f"answer {number}")), f"answer {number}")
            self.assertIsNone(near.again())
        self.assertEqual(near.told(), ["answer 1", "answer 2", "answer 3", "answer 4"])

    def test_what_is_told_is_the_asker_s_own(self):
        near = Near()
        near.ask("turns")
        near.hear(letter_of("a", 1, "x"))
        near.told().clear()
        near.told().append("y")
        self.assertEqual(near.told(), ["x"])

    def test_none_to_come(self):
        near = Near()
        for number in (0, 1, 2):
            self.assertIsNone(near.hear(letter_of("a", number, "x")))
        near.ask("turns")
        self.assertEqual(near.hear(letter_of("a", 1, "x")), "x")
        for number in (0, 1, 2):
            self.assertIsNone(near.hear(letter_of("a", number, "x")))
        self.assertEqual(near.told(), ["x"])

    def test_other_numbers_and_kinds(self):
        near = Near()
        near.ask("turns")
        near.hear(letter_of("a", 1, "x"))
        near.ask("turns")
        letter = letter_of("a", 2, "y")
        for other in (
            letter_of("a", 1, "y"), letter_of("a", 3, "y"), letter_of("a", 0, "y"), letter_of("q", 2, "y"),
            near.again(), "", "y",
            letter + "y", letter[:-1] + "z", letter[1:], "a02" + letter[2:],
        ):
            self.assertIsNone(near.hear(other))
            self.waiting(near)
        self.assertEqual(near.told(), ["x"])
        self.assertEqual(near.hear(letter), "y")
        self.assertEqual(near.told(), ["x", "y"])

    def test_an_empty_text(self):
        near = Near()
        near.ask("turns")
        self.assertEqual(near.hear(letter_of("a", 1, "")), "")
        self.assertEqual((near.told(), near.again()), ([""], None))


class Road(unittest.TestCase):
    """A road on which letters are lost, doubled, kept back and bent."""

    def __init__(self, *things):
        super().__init__(*things)
        self.back = []

    def bent(self, chance, letter):
        # In its text alone: a letter bent elsewhere may be another one by chance.
        first = len(letter) - len(letter.split(" ", 2)[2])
        if first >= len(letter):
            return letter[:-1]
        place = chance.randrange(first, len(letter))
        return letter[:place] + ("x" if letter[place] != "x" else "y") + letter[place + 1:]

    def go(self, chance, letter):
        """The letters that come through in the stead of one."""
        if letter is None:
            return []
        way = chance.randrange(8)
        through = []
        if way == 0:
            through = [letter, letter]
        elif way == 1:
            through = [self.bent(chance, letter)]
        elif way == 2:
            self.back.append(letter)
        elif way < 6:
            through = [letter]
        if self.back and chance.random() < 0.4:
            through.insert(chance.randrange(len(through) + 1), self.back.pop(chance.randrange(len(self.back))))
        return through

    def test_talks(self):
        rows = (
            "go 9", "turns", "keep", "sent", "poke 600 5", "poke 5 5", "in", "over 20", "back 2", "forth 1", "trace",
            "what", "mark 9 soft",
            "go 50 3 600", "clear", "goback 0", "profile", "look 500 274", "fault bit 200 600 3", "met", "",
            "register beat", "load 1 2 3",
        )
        for seed in range(60):
            chance = random.Random(seed)
            self.back = []
            far, near, desk = Far(typed(BUSY)[0], list(LINE)), Near(), Desk(typed(BUSY)[0], list(LINE))
            for _ in range(25):
                row = chance.choice(rows)
                letter = near.ask(row)
                while near.again() is not None:
                    for coming in self.go(chance, letter):
                        for answer in self.go(chance, far.hear(coming)):
                            near.hear(answer)
                    letter = near.again()
                self.assertEqual(near.told()[-1], desk.say(row))
            self.assertEqual(far.desk().log(), desk.log())
            self.assertEqual(near.told(), [answer for _, answer in desk.log()])
            self.assertEqual(board_stands(far.desk().plain()), board_stands(desk.plain()))


if __name__ == "__main__":
    unittest.main()
