"""Points 49 and 50 (with 2 and 4): a program stepped by its rows."""

import random
import unittest
from unittest import mock

from boardheld.errors import Barred, BoardError, NoFrame, NoImage, NoWord
from boardheld.faults import go_back, keep, put_fault
from boardheld.logs import Desk
from boardheld.making import Program
from boardheld.probe import Probe
from boardheld.rowwise import Rowwise
from boardheld.steps import frames_of, step_in

from tests.test_held import board_stands, probe_stands
from tests.test_making import Run, some_program

NO_NUMBERS = (True, False, None, "5", "", 5.0, [5], [], (5,), {}, b"5", object(), 1j, mock.ANY)
TEXT = "var x\nvar y\nx = 2\nwhile x\ndo outer\nx = x - 1\nend\nout y\n" \
    "to outer\ny = y + 1\ndo inner\nout 50\nend\nto inner\nif y & 1\nout 100\nelse\nout 200\nend\nend"


def rowwise_of(text=TEXT, line=()):
    return Rowwise(Program(text), list(line))


def stands(rowwise):
    probe = rowwise.probe_of()
    return probe_stands(probe) + [probe.turns(), probe.marks(), probe.watches(), frames_of(probe), rowwise.worths()]


class Refusing(unittest.TestCase):
    def refused(self, error, rowwise, asked, *things):
        before = stands(rowwise)
        with self.assertRaises(error) as caught:
            asked(*things)
        self.assertIs(type(caught.exception), error, things)
        self.assertEqual(error.__bases__, (BoardError,))
        self.assertEqual(stands(rowwise), before)


class Held(Refusing):
    def test_made_of_the_program_s_image_and_the_line(self):
        program, line = Program(TEXT), [(1, 3)]
        rowwise = Rowwise(program=program, line=line)
        line[0] = (1, 2)
        image = program.image()
        self.assertEqual(rowwise.probe_of().look(0, len(image)), image)
        self.assertEqual(rowwise.probe_of().look(len(image), 512 - len(image)), [65535] * (512 - len(image)))
        step_in(rowwise.probe_of())
        self.assertEqual(rowwise.probe_of().look(772, 1), [3])
        self.assertIsInstance(rowwise.probe_of(), Probe)

    def test_one_probe_for_all(self):
        rowwise = rowwise_of()
        probe = rowwise.probe_of()
        rowwise.into(100)
        self.assertIs(rowwise.probe_of(), probe)
        self.assertEqual(probe.turns(), 2)
        probe.set_register("pc", 300)
        self.assertIsNone(rowwise.row_now())

    def test_two_of_one_program(self):
        program = Program(TEXT)
        one, other = Rowwise(program, []), Rowwise(program, [])
        one.give("x", 9)
        one.probe_of().go(5)
        self.assertEqual((other.worth("x"), other.row_now(), other.probe_of().turns()), (0, 2, 0))

    def test_no_line(self):
        for line in ([(0, 1)], [(1, 4)], None, [5]):
            with self.assertRaises(NoImage):
                Rowwise(Program(""), line)

    def test_row_now(self):
        rowwise = rowwise_of()
        rows, probe = Program(TEXT).rows_at(), rowwise.probe_of()
        for address in range(600):
            probe.set_register("pc", address)
            self.assertEqual(rowwise.row_now(), rows.get(address))
        self.assertEqual(sorted(rows.values()), [2, 3, 4, 5, 7, 9, 10, 11, 14, 15, 17])

    def test_no_row_between(self):
        rowwise = rowwise_of("out 1 + 2 + 3\nout 4")
        self.assertEqual(rowwise.row_now(), 0)
        for _ in range(3):
            step_in(rowwise.probe_of())
            self.assertIsNone(rowwise.row_now())
        step_in(rowwise.probe_of())
        self.assertEqual(rowwise.row_now(), 1)
        self.assertIsNone(rowwise_of("").row_now())
        self.assertIsNone(rowwise_of("var x").row_now())


class Worths(Refusing):
    def test_worth_worths_and_give(self):
        rowwise = rowwise_of()
        self.assertEqual(rowwise.worths(), {"x": 0, "y": 0})
        self.assertIsNone(rowwise.give("y", 65535))
        self.assertIsNone(rowwise.give(word=7, name="x"))
        self.assertEqual((rowwise.worth("x"), rowwise.worth(name="y")), (7, 65535))
        self.assertEqual(rowwise.worths(), {"x": 7, "y": 65535})
        rowwise.worths()["x"] = 5
        rowwise.worths().clear()
        self.assertEqual(rowwise.worths(), {"x": 7, "y": 65535})
        places = Program(TEXT).vars_at()
        self.assertEqual(rowwise.probe_of().look(places["y"], 1), [65535])
        self.assertEqual((rowwise.probe_of().turns(), rowwise.probe_of().register_of("beat")), (0, 0))
        self.assertEqual(rowwise_of("out 5").worths(), {})

    def test_the_program_takes_what_is_given(self):
        rowwise = rowwise_of("var x\nout x\nout x")
        rowwise.give("x", 5)
        rowwise.into(9)
        rowwise.give("x", 6)
        rowwise.into(9)
        self.assertEqual([word for _, word in rowwise.probe_of().out()], [5, 6])

    def test_swapped_words_are_own_ones(self):
        rowwise = rowwise_of()
        rowwise.give("x", 5)
        place = Program(TEXT).vars_at()["x"]
        rowwise.probe_of().mark(place, False)
        self.assertEqual((rowwise.worth("x"), rowwise.worths()), (5, {"x": 5, "y": 0}))
        rowwise.give("x", 6)
        self.assertEqual((rowwise.worth("x"), rowwise.probe_of().marks()), (6, [(place, "soft")]))

    def test_names_that_are_no_vars(self):
        rowwise = rowwise_of()
        for name in ("z", "outer", "X", "", "x ", "in", "xy", "512", "a", "pc"):
            self.refused(NoWord, rowwise, rowwise.worth, name)
            self.refused(NoWord, rowwise, rowwise.give, name, 5)
            self.refused(NoWord, rowwise, rowwise.give, name, -5)

    def test_words_that_are_none(self):
        rowwise = rowwise_of()
        for word in (*NO_NUMBERS, -1, 65536, 10 ** 30):
            self.refused(NoWord, rowwise, rowwise.give, "x", word)
        self.assertNotEqual(NoWord, Barred)


class Into(Refusing):
    def test_each_row_that_begins(self):
        rowwise = rowwise_of()
        due = [2, 3, 4, 9, 10, 14, 15, 11, 5, 3, 4, 9, 10, 14, 17, 11, 5, 3, 7]
        rows = [rowwise.row_now()]
        while True:
            cause = rowwise.into(100)
            if cause != ("done",):
                break
            rows.append(rowwise.row_now())
        self.assertEqual(rows, due)
        self.assertEqual(cause, rowwise.probe_of().stop_told())
        self.assertEqual((cause[0], rowwise.row_now(), rowwise.worths()), ("mark", None, {"x": 0, "y": 2}))
        self.assertEqual([word for _, word in rowwise.probe_of().out()], [100, 50, 200, 50, 2])
        self.assertEqual(rowwise.into(100), cause)

    def test_most(self):
        rowwise = rowwise_of("out 1 + 2 + 3\nout 4")
        self.assertEqual(rowwise.into(0), ("turns",))
        self.assertEqual((rowwise.probe_of().turns(), rowwise.row_now()), (0, 0))
        self.assertEqual(rowwise.into(1), ("turns",))
        self.assertEqual((rowwise.probe_of().turns(), rowwise.row_now()), (1, None))
        self.assertEqual(rowwise.into(2), ("turns",))
        self.assertEqual(rowwise.into(1), ("done",))
        self.assertEqual((rowwise.probe_of().turns(), rowwise.row_now()), (4, 1))
        self.assertEqual(rowwise.into(most=1), ("turns",))

    def test_a_while_begins_each_time_that_it_asks(self):
        rowwise = rowwise_of("var n\nn = 3\nwhile n\nn = n - 1\nend")
        rows = []
        while rowwise.into(100) == ("done",):
            rows.append(rowwise.row_now())
        self.assertEqual(rows, [2, 3, 2, 3, 2, 3, 2])
        rowwise = rowwise_of("while 1\nend")
        for _ in range(5):
            self.assertEqual((rowwise.into(100), rowwise.row_now()), (("done",), 0))

    def test_many_programs(self):
        for seed in range(120):
            chance = random.Random(seed)
            text = some_program(chance)
            run = Run(text)
            rowwise = rowwise_of(text)
            begun = [(number, worths) for number, worths, _ in run.begun()]
            told, cause = [], ("done",)
            if rowwise.row_now() is None:
                cause = rowwise.into(100)
            while cause == ("done",):
                told.append((rowwise.row_now(), rowwise.worths()))
                cause = rowwise.into(1000)
            self.assertEqual(told, begun)
            self.assertEqual((cause[0], cause), ("mark", rowwise.probe_of().stop_told()))
            self.assertEqual([word for _, word in rowwise.probe_of().out()], run.sent)


class Over(Refusing):
    def test_over_routines_that_do_others(self):
        rowwise = rowwise_of()
        rows = [rowwise.row_now()]
        while rowwise.over(100) == ("done",):
            rows.append(rowwise.row_now())
        self.assertEqual(rows, [2, 3, 4, 5, 3, 4, 5, 3, 7])

    def test_out_of_a_routine_by_its_last_row(self):
        rowwise = rowwise_of()
        rowwise.to_row(15, 100)
        self.assertEqual(len(frames_of(rowwise.probe_of())), 2)
        self.assertEqual((rowwise.over(100), rowwise.row_now()), (("done",), 11))
        self.assertEqual((rowwise.over(100), rowwise.row_now()), (("done",), 5))

    def test_most(self):
        rowwise = rowwise_of()
        rowwise.to_row(4, 100)
        self.assertEqual(rowwise.over(0), ("turns",))
        self.assertEqual((rowwise.over(1), rowwise.row_now()), (("turns",), 9))
        self.assertEqual((rowwise.over(100), rowwise.row_now()), (("done",), 10))
        self.assertEqual(rowwise.over(most=3), ("turns",))

    def test_a_row_that_does_itself_again(self):
        text = "var n\nn = 5\nto r\nif n\nn = n - 1\ndo r\nend\nout n\nend\ndo r\nout 9"
        rowwise = rowwise_of(text)
        rowwise.to_row(9, 100)
        self.assertEqual((rowwise.over(1000), rowwise.row_now()), (("done",), 10))
        rowwise = rowwise_of(text)
        for _ in range(3):
            rowwise.to_row(5, 100)
        depth = len(frames_of(rowwise.probe_of()))
        self.assertEqual(depth, 3)
        self.assertEqual((rowwise.over(1000), rowwise.row_now()), (("done",), 7))
        self.assertEqual((len(frames_of(rowwise.probe_of())), rowwise.worth("n")), (3, 0))


class OutOf(Refusing):
    def test_by_frames(self):
        rowwise = rowwise_of()
        rowwise.to_row(15, 100)
        self.assertEqual((rowwise.out_of(100), rowwise.row_now()), (("done",), 11))
        self.assertEqual((rowwise.out_of(100), rowwise.row_now()), (("done",), 5))
        self.refused(NoFrame, rowwise, rowwise.out_of, 100)
        self.refused(NoFrame, rowwise, rowwise.out_of, 0)

    def test_past_routines_that_are_done_on_the_way(self):
        rowwise = rowwise_of()
        rowwise.to_row(9, 100)
        self.assertEqual((rowwise.out_of(100), rowwise.row_now()), (("done",), 5))
        self.assertEqual([word for _, word in rowwise.probe_of().out()], [100, 50])

    def test_most(self):
        rowwise = rowwise_of()
        rowwise.to_row(9, 100)
        self.assertEqual(rowwise.out_of(0), ("turns",))
        self.assertEqual(rowwise.out_of(1), ("turns",))
        self.assertEqual(rowwise.out_of(most=4), ("turns",))
        # It is in the inner routine now, and leaves that one.
        self.assertEqual((rowwise.out_of(100), rowwise.row_now()), (("done",), 11))

    def test_not_where_no_row_begins(self):
        # Behind the ret nothing is left but the end of the program.
        rowwise = rowwise_of("do r\nto r\nout 5\nend")
        rowwise.into(9)
        self.assertEqual(rowwise.out_of(100), rowwise.probe_of().stop_told())
        self.assertEqual(rowwise.probe_of().stop_told()[0], "mark")

    def test_no_frame_behind_a_stop(self):
        rowwise = rowwise_of("out 5")
        rowwise.into(100)
        self.refused(NoFrame, rowwise, rowwise.out_of, 5)


class ToRow(Refusing):
    def test_each_row(self):
        for number in (3, 4, 5, 7, 9, 10, 11, 14, 15, 17):
            rowwise = rowwise_of()
            self.assertEqual(rowwise.to_row(number, 1000), ("done",))
            self.assertEqual(rowwise.row_now(), number)
        rowwise = rowwise_of()
        # Row 2 begins at first alone: it goes by one turn at least.
        cause = rowwise.to_row(number=2, most=1000)
        self.assertEqual(cause, rowwise.probe_of().stop_told())

    def test_again(self):
        rowwise = rowwise_of()
        beats = []
        while rowwise.to_row(5, 1000) == ("done",):
            beats.append(rowwise.worth("x"))
        self.assertEqual(beats, [2, 1])

    def test_most(self):
        rowwise = rowwise_of()
        self.assertEqual(rowwise.to_row(4, 0), ("turns",))
        self.assertEqual(rowwise.to_row(4, 1), ("turns",))
        self.assertEqual(rowwise.to_row(4, 2), ("turns",))
        self.assertEqual(rowwise.to_row(4, 1), ("done",))

    def test_no_row_of_rows_at(self):
        rowwise = rowwise_of()
        for number in (0, 1, 6, 8, 12, 13, 16, 18, 19, 20, -1, 200, 10 ** 30):
            for most in (0, 5):
                self.refused(NoWord, rowwise, rowwise.to_row, number, most)
        self.refused(NoWord, rowwise_of("out 1\nout 2"), rowwise_of("out 1\nout 2").to_row, True, 5)


class Causes(Refusing):
    def ways(self):
        return (lambda rowwise: rowwise.into(100), lambda rowwise: rowwise.over(100),
            lambda rowwise: rowwise.to_row(1, 100))

    def test_a_stop(self):
        for way in self.ways():
            rowwise = rowwise_of("out 1\nout 2")
            rowwise.probe_of().set_register("pc", 700)
            rowwise.probe_of().poke(700, 65535)
            self.assertEqual(way(rowwise), ("none", 700))
            self.assertEqual(way(rowwise), ("none", 700))
        self.assertEqual(rowwise.into(0), ("turns",))

    def test_a_watch_is_ahead_of_done(self):
        for way in self.ways():
            rowwise = rowwise_of("out 1\nout 2")
            rowwise.probe_of().watch(1, 773, 773, "w")
            self.assertEqual(way(rowwise), ("watch", 1, 773, "w"))
            self.assertEqual((rowwise.row_now(), rowwise.probe_of().turns()), (1, 2))

    def test_done_is_ahead_of_a_mark(self):
        for hard in (True, False):
            for way in self.ways():
                rowwise = rowwise_of("out 1\nout 2")
                rowwise.probe_of().mark(2, hard)
                self.assertEqual(Program("out 1\nout 2").rows_at()[2], 1)
                self.assertEqual(way(rowwise), ("done",))
                self.assertEqual(rowwise.row_now(), 1)

    def test_a_mark_between(self):
        for hard in (True, False):
            for way in self.ways():
                rowwise = rowwise_of("out 1\nout 2")
                rowwise.probe_of().mark(1, hard)
                self.assertEqual(way(rowwise), ("mark", 1))
                self.assertEqual(way(rowwise), ("done",))

    def test_a_mark_in_a_routine(self):
        rowwise = rowwise_of()
        rows = {number: address for address, number in Program(TEXT).rows_at().items()}
        rowwise.probe_of().mark(rows[15], True)
        rowwise.to_row(4, 100)
        self.assertEqual((rowwise.over(100), rowwise.row_now()), (("mark", rows[15]), 15))
        self.assertEqual((rowwise.out_of(100), rowwise.row_now()), (("done",), 11))
        rowwise.probe_of().mark(rows[17], True)
        self.assertEqual((rowwise.out_of(100), rowwise.row_now()), (("done",), 5))
        self.assertEqual(rowwise.to_row(7, 1000), ("mark", rows[17]))

    def test_faults_and_stands(self):
        rowwise = rowwise_of()
        keep(rowwise.probe_of())
        due = [(rowwise.into(100), rowwise.row_now()) for _ in range(5)]
        go_back(rowwise.probe_of(), 0)
        self.assertEqual([(rowwise.into(100), rowwise.row_now()) for _ in range(5)], due)
        beat = rowwise.probe_of().register_of("beat")
        put_fault(rowwise.probe_of(), ("power", beat + 1))
        self.assertEqual((rowwise.over(100), rowwise.row_now(), rowwise.worths()), (("done",), 2, {"x": 0, "y": 0}))


class ByADesk(unittest.TestCase):
    def test_rows_stepped_and_a_desk_come_to_the_same(self):
        for seed in range(40):
            chance = random.Random(seed)
            text = some_program(chance)
            line = [(beat, chance.randrange(4)) for beat in range(5, 300, 9)]
            rowwise, desk = rowwise_of(text, line), Desk(Program(text).image(), line)
            for _ in range(20):
                before = rowwise.probe_of().turns()
                way = chance.randrange(4)
                if way == 0 and frames_of(rowwise.probe_of()):
                    cause = rowwise.out_of(50)
                elif way == 1:
                    cause = rowwise.over(50)
                elif way == 2:
                    rows = list(Program(text).rows_at().values())
                    cause = rowwise.to_row(chance.choice(rows), 50) if rows else rowwise.into(5)
                else:
                    cause = rowwise.into(chance.randrange(9))
                desk.say(f"go {rowwise.probe_of().turns() - before + (cause[0] == 'mark')}")
                self.assertEqual(board_stands(desk.plain()), board_stands(rowwise.probe_of().plain()))
                self.assertEqual(desk.say("turns"), str(rowwise.probe_of().turns()))
            self.assertEqual(probe_stands(rowwise.probe_of()), board_stands(desk.plain()))


if __name__ == "__main__":
    unittest.main()
