"""Points 45 to 48 (with 2): programs in rows, and their images.

A program is run here once more, row by row, from its text alone, and the boards of its image are held
against that.
"""

import random
import unittest

from boardheld.board import Board
from boardheld.errors import BoardError, NoText, TooMany
from boardheld.making import Program

WORDS = ("var", "while", "if", "else", "end", "to", "do", "out", "not", "high", "half", "in")


def ends_of(rows):
    """For each row that opens a block: the numbers of its end and of its else, None where it has none."""
    ends, open_rows, elses = {}, [], {}
    for number, row in enumerate(rows):
        head = row.split(" ")[0]
        if head in ("while", "if", "to"):
            open_rows.append(number)
        if head == "else":
            elses[open_rows[-1]] = number
        if head == "end":
            ends[open_rows[-1]] = (number, elses.get(open_rows[-1]))
            del open_rows[-1]
    return ends


class Run:
    """A program's run: told by begun are the rows that begin, with all vars ahead of each."""

    def __init__(self, text, line_in=0):
        self.rows = text.split("\n")
        self.ends = ends_of(self.rows)
        self.vars = {row.split(" ")[1]: 0 for row in self.rows if row.startswith("var ")}
        self.routines = {row.split(" ")[1]: number for number, row in enumerate(self.rows) if row.startswith("to ")}
        self.line_in = line_in
        self.sent = []
        # Else and end rows that were passed since a row began last.
        self.passed = 0

    def worth(self, part):
        if part == "in":
            return self.line_in
        return self.vars[part] if part in self.vars else int(part)

    def reckoned(self, parts):
        a = self.worth(parts[0])
        parts = parts[1:]
        while parts:
            if parts[0] == "half":
                a, parts = a // 2, parts[1:]
                continue
            b = self.worth(parts[1])
            a = {"+": a + b, "-": a - b, "&": a & b, "^": a ^ b}[parts[0]] % 65536
            parts = parts[2:]
        return a

    def holds(self, parts):
        if parts[0] == "not":
            return self.reckoned(parts[1:]) == 0
        if parts[0] == "high":
            return self.reckoned(parts[1:]) >= 32768
        return self.reckoned(parts) != 0

    def begun(self, first=0, behind=None):
        """Each row that begins, from one row on and ahead of another: tuples of its number and the vars."""
        at = first
        while at < (len(self.rows) if behind is None else behind):
            parts = self.rows[at].split(" ")
            head = parts[0]
            if head == "to":
                at = self.ends[at][0] + 1
                continue
            if head not in ("", "var"):
                yield at, dict(self.vars), self.passed
                self.passed = 0
            if head == "out":
                self.sent.append(self.reckoned(parts[1:]))
            elif head == "do":
                start = self.routines[parts[1]]
                yield from self.begun(start + 1, self.ends[start][0])
                self.passed += 1
            elif head in ("while", "if"):
                end, other = self.ends[at]
                if head == "while":
                    while self.holds(parts[1:]):
                        yield from self.begun(at + 1, end)
                        self.passed += 1
                        yield at, dict(self.vars), self.passed
                        self.passed = 0
                elif self.holds(parts[1:]):
                    yield from self.begun(at + 1, end if other is None else other)
                    self.passed += 1
                elif other is not None:
                    yield from self.begun(other + 1, end)
                    self.passed += 1
                at = end
            elif head not in ("", "var"):
                self.vars[head] = self.reckoned(parts[2:])
            at += 1


def some_operand(chance, names):
    number = chance.choice([0, 1, 2, 3, 1023, 1024, 32767, 32768, 65535, chance.randrange(65536)])
    return chance.choice([*names, str(number), str(chance.randrange(9)), "in"][:None if chance.random() < 0.9 else -1])


def some_reckoning(chance, names):
    parts = [some_operand(chance, names)]
    for _ in range(chance.choice([0, 1, 1, 2, 8])):
        sign = chance.choice(["+", "-", "&", "^", "half"])
        parts += ["half"] if sign == "half" else [sign, some_operand(chance, names)]
    return " ".join(parts)


def some_block(chance, names, routines, counters, depth):
    """Some rows; each while counts a var of its own down, so that it comes to its end."""
    rows = []
    for _ in range(chance.randrange(1, 4)):
        kind = chance.choice(["set", "set", "out", "do", "if", "if", "while", ""])
        if kind == "set":
            rows.append(f"{chance.choice(names)} = {some_reckoning(chance, names + counters)}")
        elif kind == "out":
            rows.append(f"out {some_reckoning(chance, names + counters)}")
        elif kind == "do" and routines:
            rows.append(f"do {chance.choice(routines)}")
        elif kind == "if" and depth < 3:
            rows.append(f"if {chance.choice(['', 'not ', 'high '])}{some_reckoning(chance, names)}")
            rows += some_block(chance, names, routines, counters, depth + 1)
            if chance.random() < 0.5:
                rows.append("else")
                rows += some_block(chance, names, routines, counters, depth + 1) if chance.random() < 0.8 else []
            rows.append("end")
        elif kind == "while" and depth < 2 and counters:
            counter, rest = counters[0], counters[1:]
            ways = (
                (f"while {counter}", f"{counter} = {counter} - 1"),
                (f"while not {counter} & 4", f"{counter} = {counter} + 1"),
                (f"while high {counter} + 32764 & 65532 ^ 32768", f"{counter} = {counter} + 1"),
            )
            asked, step = chance.choice(ways)
            rows += [f"{counter} = {chance.randrange(4)}", asked]
            rows += some_block(chance, names, routines, rest, depth + 1)
            rows += [step, "end"]
        else:
            rows.append("")
    return rows


def some_program(chance):
    """The text of a program that comes to its end."""
    names, counters = ["x", "y", "zed"], ["i", "j"]
    rows = [f"var {name}" for name in names + counters]
    routines = []
    for number, name in enumerate(["one", "two", "three"][:chance.randrange(4)]):
        # A routine does those alone that stand ahead of it, and has a counter of its own.
        rows += [f"var c{'abc'[number]}", f"to {name}"]
        rows += some_block(chance, names, list(routines), [f"c{'abc'[number]}"], 1)
        rows.append("end")
        routines.append(name)
    main = some_block(chance, names, routines, counters, 0) + some_block(chance, names, routines, counters, 0)
    if chance.random() < 0.5:
        # Routines may stand behind rows that do them; vars stay ahead of all.
        behind = [row for row in rows if not row.startswith("var ")]
        rows = [row for row in rows if row.startswith("var ")] + main + behind
    else:
        rows += main
    return "\n".join(rows)


class Texts(unittest.TestCase):
    def refused(self, text, at):
        with self.assertRaises(NoText) as caught:
            Program(text)
        self.assertEqual(type(caught.exception).__bases__, (BoardError,))
        self.assertEqual(caught.exception.at, at, text)

    def wrong_rows(self, ahead, *rows):
        """Each row is refused behind others that may stand."""
        for row in rows:
            self.refused(ahead + row, ahead.count("\n"))
            self.refused(ahead + row + "\nnothing", ahead.count("\n"))


class MayStand(Texts):
    def test_each_row(self):
        for text in (
            "", "\n", "\n\n\n", "var x", "var x\nx = 5", "out 5", "out in", "var abcdefgh\nabcdefgh = abcdefgh",
            "to x\nend",
            "while 1\nend", "if 0\nend", "if 1\nelse\nend", "do r\nto r\nend", "to r\ndo r\nend", "var x\nx = x half",
            "var vars\nvar ins\nvar outs\nvar ends\nvars = ins", "out 0", "out 65535", "out 1 + 2 - 3 & 4 ^ 5",
            "out 1 half half",
            "while not 1\nend", "while high 1\nend", "if not in\nend", "if high 0 half\nend",
            "to r\nif 1\nelse\nend\nend",
            "while 1\nwhile 2\nif 3\nend\nend\nend", "out 1\nvar x\nx = 1\nto r\nend\nvar y\ny = x\nto s\nend",
            "to a\nend\ndo a",
        ):
            Program(text)

    def test_eight_signs_and_halves(self):
        for behind in (" + 1", " half"):
            Program("out 1" + behind * 8)
            self.refused("out 1" + behind * 9, 0)
        Program("out 1 + 1 half - 1 half & 1 half ^ 1 half")
        self.refused("out 1 + 1 half - 1 half & 1 half ^ 1 half half", 0)
        self.refused("while not 1" + " half" * 9, 0)
        Program("while not 1" + " half" * 8 + "\nend")

    def test_forty_vars(self):
        names = [first + second for first in "abcdef" for second in "ghijklmn"]
        Program("\n".join(f"var {name}" for name in names[:40]))
        self.refused("\n".join(f"var {name}" for name in names[:41]), 40)
        self.refused("\n" + "\n".join(f"var {name}" for name in names[:42]), 41)
        self.refused("out\n" + "\n".join(f"var {name}" for name in names), 0)
        self.assertEqual(len(Program("\n".join(f"var {name}" for name in names[:40])).vars_at()), 40)

    def test_two_hundred_rows(self):
        Program("\n" * 199)
        self.refused("\n" * 200, 200)
        self.refused("\n" * 300, 200)
        self.refused("\n".join(["out 1"] * 201), 200)
        self.refused("\n" * 199 + "x", 199)
        self.refused("\n" * 200 + "x", 200)
        self.refused("\n" * 50 + "x" + "\n" * 200, 50)
        self.refused("while 1" + "\n" * 199, 200)
        self.refused("do r" + "\n" * 200, 200)

    def test_a_var_may_have_a_routine_s_work_ahead(self):
        Program("var x\nto r\nx = 1\nend\nvar y\nto s\ny = x\ndo r\nend")


class MayNotStand(Texts):
    AHEAD = "var x\nvar y\nto r\nend\n"

    def test_names(self):
        wrong = ("abcdefghi", "X", "xY", "x1", "1", "x_y", "", "-", "=", "x-", *WORDS)
        self.wrong_rows("", *[f"var {name}" for name in wrong], *[f"to {name}" for name in wrong])
        self.wrong_rows("", *[f"do {name}" for name in wrong], *[f"{name} = 5" for name in wrong])

    def test_names_told_twice(self):
        self.wrong_rows(self.AHEAD, "var x", "var y", "var r", "to x", "to r", "to y")
        self.refused("var a\nvar a", 1)
        self.refused("to a\nend\nto a\nend", 2)
        self.refused("to a\nend\nvar a", 2)
        self.refused("to a\ndo b\nend\nto b\nend\nvar b", 5)

    def test_forms(self):
        self.wrong_rows(
            self.AHEAD, "var", "var a b", "var a = 5", "x", "x =", "x = ", "x 5", "= 5", "x == 5", "x=5", "x= 5",
            "x =5", "x = y =",
            "out", "out ", "out x y", "out = 5", "while", "if", "to", "do", "do r r", "to s t", "else x", "end x",
            "var a\t", " ", "  ",
            " x = 5", "x = 5 ", "x  = 5", "x =  5", "x = 5  + 3", " out 5", "out 5 ", "out  5", " var a", "var  a",
            "var a ", " end",
            "end ", " else", "while  1", "while 1 ", " do r", "do r ", "do  r", "to  s", "to s ", "nothing", "r", "5",
            "not x", "high x",
            "half", "in", "in = 5", "Out 5", "OUT 5", "x = 5\t", "let 5", "x + 5", "5 = x", "x = 5 = 5", "out 5 out 5",
            "x = to", "#",
        )

    def test_reckonings(self):
        wrong = (
            "+", "5 +", "+ 5", "5 + + 5", "5 5", "5 x", "x y", "5 half 5", "half 5", "half", "5 + half",
            "5 half half +", "5 * 5", "5 | 5",
            "5+5", "5 +5", "not 5", "high 5", "5 + not 5", "5 - high 5", "r", "5 + r", "z", "5 + z", "-5", "+5", "5 & ",
            "5 ^", "5 %", "5 / 5",
            "65536", "99999", "100000", "00", "01", "05 + 5", "5 + 05", "000000", "123456", "0x5", "5.0", "x5", "5x",
            "X", "5 + 65536",
            "out", "while", "in in", "in + in in", "5 in", "(5)", "5 , 5", "half half", "x = 5", "5 + =", "and",
            "5 and 5",
        )
        for ahead in ("x = ", "out ", "while ", "if ", "while not ", "if high "):
            for reckoning in wrong:
                if ahead in ("while ", "if ") and reckoning in ("not 5", "high 5"):
                    continue
                self.refused(self.AHEAD + ahead + reckoning, 4)
        for ahead in ("while ", "if "):
            for asked in ("not", "high", "not not 5", "high high 5", "not high 5", "high not 5", "5 not", "5 high",
                "not half"):
                self.refused(self.AHEAD + ahead + asked, 4)

    def test_vars_ahead_of_their_rows(self):
        self.refused("x = 5\nvar x", 0)
        self.refused("out x\nvar x", 0)
        self.refused("var x\nx = y\nvar y", 1)
        self.refused("while x\nend\nvar x", 0)
        self.refused("to r\nx = 5\nend\nvar x\ndo r", 1)
        self.refused("var x\nx = 1 + 2 - x & x ^ y\nvar y", 1)

    def test_vars_and_routines_in_blocks(self):
        for block in ("while 1", "if 1", "to s", "if 1\nelse", "while 1\nif 1", "to s\nwhile 1"):
            for row in ("var a", "to t", "var a\nend", "to t\nend\nend"):
                self.refused(f"{block}\n{row}", block.count("\n") + 1)
        Program("while 1\nend\nvar a\nif 1\nelse\nend\nto t\nend")

    def test_else_and_end(self):
        self.wrong_rows("", "else", "end")
        self.wrong_rows("while 1\n", "else")
        self.wrong_rows("to r\n", "else")
        self.wrong_rows("if 1\nelse\n", "else")
        self.wrong_rows("if 1\nend\n", "else", "end")
        self.wrong_rows("if 1\nwhile 1\n", "else")
        self.wrong_rows("if 1\nwhile 1\nend\nelse\nwhile 2\nend\n", "else")
        self.wrong_rows("if 1\nif 2\nelse\nend\nelse\n", "else")
        self.wrong_rows("to r\nend\n", "end", "else")
        Program("if 1\nif 2\nelse\nend\nelse\nif 3\nelse\nend\nend")

    def test_blocks_without_an_end(self):
        self.refused("while 1", 1)
        self.refused("if 1", 1)
        self.refused("to r", 1)
        self.refused("if 1\nelse", 2)
        self.refused("while 1\n\n", 3)
        self.refused("while 1\nif 2\nend", 3)
        self.refused("to r\nwhile 1\nend\nout 5\n", 5)
        self.refused("if 1\nout 5\nelse\nwhile 2\nend", 5)

    def test_routines_that_are_none(self):
        self.refused("do r", 0)
        self.refused("var r\ndo r", 1)
        self.refused("out 1\ndo r\ndo s\nto s\nend", 1)
        self.refused("do s\n\ndo r\nto s\nend", 2)
        self.refused("to s\ndo t\nend\ndo r", 1)
        self.refused("do r\nto s\ndo t\nend", 0)
        self.refused("to s\nend\nwhile 1\ndo t\nend\ndo u", 3)

    def test_which_is_told(self):
        # A row that may not stand is ahead of a block without an end, and that is ahead of a do.
        self.refused("do r\nwhile 1\nnothing\nend", 2)
        self.refused("while 1\ndo r\nout", 2)
        self.refused("do r\nwhile 1", 2)
        self.refused("do r\nwhile 1\nend", 0)
        self.refused("out\nnothing", 0)
        self.refused("do r\nout 5\nend", 2)
        self.refused("do r\n" + "out 1 + 2\n" * 199 + "x", 200)

    def test_refused_texts_are_no_text_ahead_of_too_many(self):
        self.refused("\n".join(["out 60000 + 60001 + 60002 + 60003 + 60004 + 60005"] * 198) + "\ndo r", 198)
        self.refused("\n".join(["out 60000 + 60001 + 60002 + 60003 + 60004 + 60005"] * 198) + "\nwhile 1", 199)


class Runs(unittest.TestCase):
    def run_of(self, text, line=(), most=100000, **names):
        """A board that ran a program to its end, and what it sent."""
        program = Program(text)
        board = Board(program.image(), list(line))
        for _ in range(most):
            if board.turn() == "stopped":
                break
        self.assertEqual(board.stopped[0], "mark", text)
        places = program.vars_at()
        self.assertEqual({name: board.memory.word_at(place) for name, place in places.items()}, names or
                         {name: board.memory.word_at(place) for name, place in places.items()})
        return [word for _, word in board.sent]

    def test_nothing(self):
        for text in ("", "\n\n", "var x", "to r\nout 5\nend", "var x\nto r\nx = 5\nend"):
            self.assertEqual(self.run_of(text), [])

    def test_reckonings(self):
        cases = {
            "0": 0, "5": 5, "1023": 1023, "1024": 1024, "65535": 65535, "5 + 3": 8, "5 - 3": 2, "3 - 5": 65534,
            "65535 + 1": 0,
            "65535 + 65535": 65534, "12 & 10": 8, "12 ^ 10": 6, "7 half": 3, "65535 half": 32767, "1 half": 0,
            "0 half": 0,
            "10 - 3 - 2": 5, "1 + 6 half": 3, "1 + 2 & 2 ^ 7": 5, "0 - 1 half": 32767, "40000 + 40000 half": 7232,
            "5 + 5 + 5 + 5 + 5 + 5 + 5 + 5 + 5": 45, "65535 half half half half half half half half": 255, "in": 0,
            "7 + in": 7,
            "2000 & 3000 ^ 5000 - 60000 half + 2000": (((2000 & 3000 ^ 5000) - 60000) % 65536 // 2 + 2000) % 65536,
        }
        for reckoning, due in cases.items():
            self.assertEqual(self.run_of(f"out {reckoning}"), [due], reckoning)
            self.assertEqual(self.run_of(f"var x\nx = {reckoning}\nout x"), [due], reckoning)

    def test_vars(self):
        self.assertEqual(self.run_of("var x\nout x\nx = 5\nout x\nvar y\nout y\ny = x + x\nx = y\nout x", x=10, y=10),
            [0, 5, 0, 10])
        self.assertEqual(self.run_of("var x\nx = x - 1\nx = x half\nout x", x=32767), [32767])

    def test_in(self):
        self.assertEqual(self.run_of("out 7\nout in\nout in + in\nout in - 3", [(1, 2), (4, 3)]), [7, 2, 6, 0])
        # It is line in when its own deed is done.
        self.assertEqual(self.run_of("var x\nx = in\nout x\nout x", [(1, 2)]), [0, 0])
        text = "var n\nwhile not in & 1\nn = n + 1\nend\nout in\nout n"
        self.assertEqual(self.run_of(text, [(30, 2), (200, 3)])[0], 3)

    def test_while(self):
        self.assertEqual(self.run_of("var n\nn = 3\nwhile n\nout n\nn = n - 1\nend\nout 9"), [3, 2, 1, 9])
        self.assertEqual(self.run_of("var n\nwhile not n & 4\nout n\nn = n + 1\nend\nout 9"), [0, 1, 2, 3, 9])
        self.assertEqual(self.run_of("var n\nn = 32770\nwhile high n\nout n\nn = n - 1\nend\nout 9"),
            [32770, 32769, 32768, 9])
        for asked in ("0", "not 1", "high 32767", "not 65535", "high 0", "3 - 3", "not 3 - 2", "high 32768 half"):
            self.assertEqual(self.run_of(f"while {asked}\nout 1\nend\nout 9"), [9], asked)

    def test_if(self):
        asked = {
            "0": 0, "1": 1, "65535": 1, "32768": 1, "not 0": 1, "not 1": 0, "not 32768": 0, "high 32768": 1,
            "high 32767": 0,
            "high 65535": 1, "high 0": 0, "5 - 5": 0, "not 5 - 5": 1, "high 5 - 6": 1, "1 half": 0, "not 1 half": 1,
            "high 65535 half": 0, "not 5 & 2": 1, "5 ^ 5": 0, "high 1 ^ 32768": 1,
        }
        for text, holds in asked.items():
            self.assertEqual(self.run_of(f"if {text}\nout 1\nend\nout 9"), [1, 9] if holds else [9], text)
            self.assertEqual(self.run_of(f"if {text}\nout 1\nelse\nout 2\nend\nout 9"), [1 if holds else 2, 9], text)
            self.assertEqual(self.run_of(f"if {text}\nelse\nout 2\nend\nout 9"), [9] if holds else [2, 9], text)
            self.assertEqual(self.run_of(f"if {text}\nout 1\nelse\nend\nout 9"), [1, 9] if holds else [9], text)
            self.assertEqual(self.run_of(f"if {text}\nend\nout 9"), [9], text)

    def test_nested(self):
        text = "var i\nvar j\ni = 3\nwhile i\nj = 2\nwhile j\nif i & 1\nif not j - 1\nout i\nelse\nout 100 + i\nend\n" \
            "else\nout 200 + j\nend\nj = j - 1\nend\ni = i - 1\nend\nout 9"
        self.assertEqual(self.run_of(text, i=0, j=0), [103, 3, 202, 201, 101, 1, 9])

    def test_routines(self):
        self.assertEqual(self.run_of("do r\nout 2\ndo r\nto r\nout 1\nend\nout 3"), [1, 2, 1, 3])
        self.assertEqual(self.run_of("to r\nout 1\nend\ndo r\nout 2"), [1, 2])
        text = "var x\nto a\nx = x + 1\ndo b\nend\ndo a\nto b\nx = x + x\nout x\nend\ndo a\ndo b"
        self.assertEqual(self.run_of(text, x=12), [2, 6, 12])
        self.assertEqual(self.run_of("do r\nout 2\nto r\nend\nto s\nout 5\nend"), [2])

    def test_routines_deep_in_one_another(self):
        text = "var n\nvar done\nto r\nn = n + 1\nif n - 150\ndo r\nend\ndone = done + 1\nend\ndo r\nout n\nout done"
        self.assertEqual(self.run_of(text, n=150, done=150), [150, 150])
        text = "var n\nn = 74\nto odd\nout 1\nif n\nn = n - 1\ndo even\nend\nend\n" \
            "to even\nout 2\nif n\nn = n - 1\ndo odd\nend\nend\ndo odd"
        self.assertEqual(self.run_of(text), [1, 2] * 37 + [1])
        # A hundred and fifty deep, with all vars there are, again and again.
        names = [first + second for first in "abcde" for second in "ghijklmn"][:39]
        rows = [f"var {name}" for name in names]
        rows += ["var n", "to r", "if n - 149", "n = n + 1", "do r", "end", "ag = ag + 1", "end"]
        rows += [f"{name} = 7" for name in names[1:]] + ["do r", "n = 0", "do r", "out ag"]
        rows += [f"out {name}" for name in names[1:]]
        self.assertEqual(self.run_of("\n".join(rows)), [300] + [7] * 38)

    def test_interrupts_play_no_part(self):
        line = [(beat, beat % 4) for beat in range(1, 300)]
        self.assertEqual(self.run_of("var n\nn = 9\nwhile n\nn = n - 1\nend\nout 5", line), [5])


class Images(unittest.TestCase):
    TEXT = "var x\nx = 5\nwhile x\nif x & 1\nout x\nelse\ndo r\nend\nx = x - 1\nend\nto r\nout 60000\nend\n"

    def test_rows_at(self):
        program = Program(self.TEXT)
        rows = program.rows_at()
        self.assertEqual(sorted(rows.values()), [1, 2, 3, 4, 6, 8, 11])
        self.assertEqual(len(rows), 7)
        for address in rows:
            self.assertIn(address, range(len(program.image())))
        self.assertEqual(Program("").rows_at(), {})
        self.assertEqual(Program("var x\nto r\nend").rows_at(), {})

    def test_vars_at(self):
        places = Program("var x\nvar y\nvar abcdefgh\ny = 5").vars_at()
        self.assertEqual(sorted(places), ["abcdefgh", "x", "y"])
        self.assertEqual(len(set(places.values())), 3)
        for place in places.values():
            self.assertIn(place, range(512, 768))

    def test_each_call_tells_a_new_one(self):
        program = Program(text=self.TEXT)
        told = [program.image(), program.rows_at(), program.vars_at()]
        again = [list(told[0]), dict(told[1]), dict(told[2])]
        for thing in (program.image(), program.rows_at(), program.vars_at()):
            thing.clear()
        program.image().append(5)
        program.rows_at()[5] = 5
        program.vars_at()["x"] = 5
        self.assertEqual([program.image(), program.rows_at(), program.vars_at()], again)

    def test_images_are_words(self):
        for seed in range(40):
            program = Program(some_program(random.Random(seed)))
            image = program.image()
            self.assertLessEqual(len(image), 512)
            self.assertTrue(all(type(word) is int and 0 <= word <= 65535 for word in image))

    def follow(self, text, line_in=0):
        """Holds a board of a program's image against the program's run."""
        program, run = Program(text), Run(text, line_in)
        board = Board(program.image(), [(1, line_in)] if line_in else [])
        rows, places = program.rows_at(), program.vars_at()
        self.assertEqual(sorted(places), sorted(run.vars))
        begun = run.begun()
        turns, passed, calls = 0, 0, 0
        while board.stopped is None:
            pc = board.registers["pc"]
            if pc in rows:
                number, worths, passed = next(begun)
                self.assertEqual(rows[pc], number)
                self.assertEqual({name: board.memory.word_at(place) for name, place in places.items()}, worths)
                self.assertLessEqual(turns, 40 + 4 * passed)
                turns = 0
            op = board.memory.word_at(pc) // 1024
            self.assertNotIn(op, (19, 20, 21))
            self.assertEqual(op == 15, pc in rows and run.rows[rows[pc]].startswith("do "))
            calls += (op == 15) - (op == 16)
            board.turn()
            turns += 1
        self.assertEqual(list(begun), [])
        self.assertLessEqual(turns - 1, 40 + 4 * run.passed)
        self.assertEqual(board.stopped, ("mark", board.registers["pc"]))
        self.assertEqual([word for _, word in board.sent], run.sent)
        worths = {name: board.memory.word_at(place) for name, place in places.items()}
        self.assertEqual((worths, calls, board.registers["sp"]), (run.vars, 0, 767))
        return run.sent

    def test_each_row_is_begun_just_where_pc_is_its_address(self):
        self.follow(self.TEXT)
        for text in ("", "out 5", "while 0\nend", "if 1\nend", "do r\nto r\nend", "var x\nx = 1", "if 0\nelse\nend",
            "out in\nout in"):
            self.follow(text)
        self.follow("\n".join(["if 1"] * 60 + ["out 1"] + ["end"] * 60))
        self.follow("\n".join(["if 1"] * 40 + ["else\nend"] * 40))
        self.follow("var n\nn = 3\n" + "\n".join(["while n"] * 50 + ["n = n - 1"] + ["end"] * 50))
        self.follow("var n\nn = 3\nwhile n\nn = n - 1\n" + "\n".join(["if n", "else"] * 40 + ["end"] * 40) + "\nend")

    def test_many_programs(self):
        sent = 0
        for seed in range(300):
            chance = random.Random(seed)
            text = some_program(chance)
            # Behind one row that takes longer than a beat line in is what the line told.
            line_in = chance.choice([0, 0, 1, 2, 3])
            sent += len(self.follow("var first\nfirst = 5\n" + text, line_in))
        self.assertGreater(sent, 400)


class Bounds(unittest.TestCase):
    def numbers(self, many):
        """Distinct numbers, none of which an op's x has room for."""
        return [str(65535 - number * 3) for number in range(many)]

    def check(self, rows):
        image = Program("\n".join(rows)).image()
        self.assertLessEqual(len(image), 512)
        self.assertLessEqual(len(rows), 200)
        return len(image)

    def test_sixty_whiles_with_not(self):
        numbers = self.numbers(120)
        for way in ("", "not ", "high "):
            rows = [f"while {way}{numbers[2 * k]} - {numbers[2 * k + 1]}" for k in range(60)] + ["end"] * 60
            rows += [row for k in range(40) for row in (f"to r{'abcdefgh'[k % 8]}{'abcdefgh'[k // 8]}", "end")]
            self.assertGreater(self.check(rows), 400)

    def test_sixty_ifs_with_else(self):
        numbers = self.numbers(120)
        for way in ("", "not ", "high "):
            rows = []
            for k in range(60):
                rows += [f"if {way}{numbers[2 * k]} ^ {numbers[2 * k + 1]}", "else", "end"]
            self.check(rows + [f"var {name}" for name in "abcdefghijklmnopqrst"])

    def test_sixty_sets_and_outs(self):
        numbers = self.numbers(120)
        rows = ["var x"] + [f"x = {numbers[2 * k]} + {numbers[2 * k + 1]}" for k in range(30)]
        rows += [f"out {numbers[60 + 2 * k]} & {numbers[61 + 2 * k]}" for k in range(30)]
        self.check(rows + ["to " + "abcdefgh"[k % 8] + "abcdefgh"[k // 8] + "\nend" for k in range(64)])

    def test_long_reckonings_and_dos(self):
        numbers = self.numbers(120)
        rows = ["out " + " + ".join(numbers[9 * k:9 * k + 9]) for k in range(13)]
        rows += ["do r"] * 46 + ["out 65001 half half", "to r", "end"]
        self.check(rows)

    def test_forty_vars_and_all_else(self):
        names = [first + second for first in "abcdef" for second in "ghijklmn"][:40]
        numbers = self.numbers(120)
        rows = [f"var {name}" for name in names]
        rows += [f"while not {numbers[2 * k]} - {numbers[2 * k + 1]}" for k in range(60)] + ["end"] * 60
        rows += [row for k in range(20) for row in (f"to z{'abcdefgh'[k % 8]}{'abcdefgh'[k // 8]}", "end")]
        self.assertEqual(len(rows), 200)
        self.check(rows)

    def test_at_random(self):
        for seed in range(30):
            chance = random.Random(seed)
            numbers = self.numbers(120)
            rows, opened, left = ["var x"], [], 120
            for k in range(60):
                many = min(9, 1 + chance.randrange(1 + 2 * (left - (60 - k)) // (60 - k))) if k < 59 else min(9, left)
                kind = chance.choice(["x =", "out", "while not", "if high", "if not", "do r"])
                left -= 0 if kind == "do r" else many
                if kind == "do r":
                    rows.append(kind)
                    continue
                rows.append(f"{kind} " + " - ".join(numbers[left:left + many]))
                if kind[:2] in ("wh", "if"):
                    opened.append(kind)
                if opened and chance.random() < 0.3 and len(rows) + len(opened) < 190:
                    rows.append("end")
                    del opened[-1]
            rows += ["end"] * len(opened) + ["to r", "end"]
            self.assertGreaterEqual(left, 0)
            self.check(rows)

    def test_what_is_too_great(self):
        for text in (
            "\n".join(["out 1 + 2 + 3 + 4"] * 200), "\n".join(["out 1 half half half half half half half half"] * 100),
            "\n".join(f"out {number} + {number + 1}" for number in range(2000, 2400, 2)),
            "var x\n" + "\n".join(["x = x + x + x + x + x + x + x + x + x"] * 199),
        ):
            with self.assertRaises(TooMany) as caught:
                Program(text)
            self.assertEqual(type(caught.exception).__bases__, (BoardError,))

    def test_the_last_image_that_is_small_enough(self):
        rows = ["out 1 half half half half half half half half"] * 51 + ["to r", "end"]
        self.assertEqual(len(Program("\n".join(rows)).image()), 512)
        with self.assertRaises(TooMany):
            Program("\n".join(rows + ["to s", "end"]))

    def test_numbers_again_take_no_more_room(self):
        self.assertEqual([sent for sent in Run("\n".join(["out 60000 + 60000"] * 150)).begun()][0][0], 0)
        self.assertLessEqual(len(Program("\n".join(["out 60000 + 60000"] * 150)).image()), 512)


if __name__ == "__main__":
    unittest.main()
