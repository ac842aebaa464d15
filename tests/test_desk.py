"""Points 39 to 41 (with 2, 4 and 43): a desk, its rows, its answers and its log."""

import unittest
from unittest import mock

from boardheld.board import Board
from boardheld.errors import BoardError, NoImage
from boardheld.faults import go_back, keep, kept_beats, met_faults, put_fault, unlike_words, waiting_faults
from boardheld.listing import typed
from boardheld.logs import Desk, replayed
from boardheld.probe import Probe
from boardheld.programming import erase, load, load_cut, plan, unlike_pages, write
from boardheld.steps import frames_of, step_in, step_out, step_over, strays_of
from boardheld.traces import clear_trace, faded, idle, peeked, profile, spent, trace

from tests.test_held import BUSY, board_stands, probe_stands

NO_NUMBERS = (True, False, None, "5", "", 5.0, [5], [], (5,), {}, b"5", object(), 1j, mock.ANY)
LINE = [(beat, beat % 4) for beat in range(3, 900, 7)]

# All rows that only ask, with things that they take.
ASKS = (
    "look 0 774", "look 600 2", "look 3 0", "register a", "register b", "register pc", "register sp", "register zero",
    "register lets", "register asleep", "register beat", "stop", "sent", "turns", "marks", "wear", "watches", "frames",
    "strays", "trace", "faded", "profile", "spent", "idle", "peeked", "plan", "plan 1 2 3", "unlike", "unlike 1 2 3",
    "faults", "met", "stands",
)


def desk_of(text, line=()):
    return Desk(typed(text)[0], list(line))


def told_of(thing):
    """The text of a thing, as point 41 has it, written another way than the program does."""
    if thing is None or thing == []:
        return "none"
    if isinstance(thing, list) and not all(isinstance(part, int) for part in thing):
        return "; ".join("-" if part is None else told_of(part) for part in thing)
    if isinstance(thing, (list, tuple)):
        return " ".join(told_of(part) for part in thing)
    return {True: "yes", False: "no"}.get(thing, str(thing)) if isinstance(thing, bool) else str(thing)


def asked_of(probe, row):
    """What a probe tells that a row asks for."""
    head, *parts = row.split(" ")
    numbers = [int(part) for part in parts if part.isdigit()]
    asking = {
        "look": lambda: probe.look(*numbers), "register": lambda: probe.register_of(parts[0]), "stop": probe.stop_told,
        "sent": probe.out, "turns": probe.turns, "marks": probe.marks, "wear": probe.wear, "watches": probe.watches,
        "frames": lambda: frames_of(probe), "strays": lambda: strays_of(probe), "trace": lambda: trace(probe),
        "faded": lambda: faded(probe), "profile": lambda: profile(probe), "spent": lambda: spent(probe),
        "idle": lambda: idle(probe), "peeked": lambda: peeked(probe), "plan": lambda: plan(probe, numbers),
        "unlike": lambda: unlike_pages(probe, numbers), "faults": lambda: waiting_faults(probe),
        "met": lambda: met_faults(probe), "stands": lambda: kept_beats(probe),
        "changed": lambda: unlike_words(probe, *numbers),
    }
    try:
        return told_of(asking[head]())
    except BoardError as refused:
        fields = "".join(f" {field}" for field in vars(refused).values())
        return f"refused {type(refused).__name__.lower()}{fields}"


class Rows(unittest.TestCase):
    def talk(self, desk, *rows):
        """Says rows, each as a pair of the row and the answer due."""
        for row, answer in rows:
            self.assertEqual(desk.say(row), answer, row)

    def alike(self, desk, probe, asks=ASKS):
        """A desk tells all that a probe tells."""
        for row in asks:
            self.assertEqual(desk.say(row), asked_of(probe, row), row)
        self.assertEqual(board_stands(desk.plain()), board_stands(probe.plain()))


class Made(Rows):
    def test_no_image(self):
        for image, line in (([65536], []), ([0] * 513, []), ([], [(0, 0)]), ([], [(2, 1), (1, 1)]), (None, []),
            ([], 5)):
            for made in (lambda: Desk(image, line), lambda: replayed(image, line, [])):
                with self.assertRaises(NoImage) as caught:
                    made()
                self.assertEqual(type(caught.exception).__bases__, (BoardError,))

    def test_what_is_handed_in_is_not_kept(self):
        image, line = typed("lit 5\nlit 6")[0], [(2, 3)]
        desk = Desk(image=image, line=line)
        image[1] = 0
        line[0] = (1, 1)
        self.talk(desk, ("go 2", "turns"), ("register a", "6"), ("look 772 1", "3"))

    def test_first_answers(self):
        desk = Desk([], [])
        self.talk(
            desk, ("look 0 2", "65535 65535"), ("look 0 0", "none"), ("register sp", "767"), ("register zero", "no"),
            ("stop", "none"), ("sent", "none"), ("turns", "0"), ("marks", "none"), ("wear", " ".join("0" * 16)),
            ("watches", "-; -"), ("frames", "none"), ("strays", "0"), ("trace", "none"), ("faded", "0"),
            ("profile", "none"), ("spent", "none"), ("idle", "0"), ("peeked", "0"), ("plan", "none"),
            ("unlike", "none"),
            ("faults", "none"), ("met", "none"), ("stands", "none"), ("changed 0", "refused noword"),
        )


class Asks(Rows):
    def busy(self):
        """A desk and a probe to which the same was done."""
        desk, probe = desk_of(BUSY, LINE), Probe(typed(BUSY)[0], list(LINE))
        rows = "go 90 3 600 3 601 80 5", "mark 5 soft", "mark 600 hard", "mark 700 soft", "watch 1 512 600 rw", \
            "keep", "fault bit 300 600 3", "fault read 290 9", "fault power 900", "erase 15", "go 60", "keep", "poke 600 77"
        for row in rows:
            self.assertNotIn("refused", desk.say(row))
        probe.go(90, [(3, 600), (3, 601), (80, 5)])
        probe.mark(5, False)
        probe.mark(600, True)
        probe.mark(700, False)
        probe.watch(1, 512, 600, "rw")
        keep(probe)
        put_fault(probe, ("bit", 300, 600, 3))
        put_fault(probe, ("read", 290, 9))
        put_fault(probe, ("power", 900))
        erase(probe, 15)
        probe.go(60)
        keep(probe)
        probe.poke(600, 77)
        return desk, probe

    def test_each_row_tells_what_its_function_tells(self):
        desk, probe = self.busy()
        self.alike(desk, probe, (*ASKS, "changed 0", "changed 1", "changed 2"))
        self.talk(desk, ("plan", "refused marked 5"), ("unmark 5", "done"))
        probe.unmark(5)
        self.alike(desk, probe, (*ASKS, "plan 1 2 3", "unlike 1 2"))

    def test_what_is_only_asked_changes_nothing(self):
        desk, probe = self.busy()
        for _ in range(2):
            self.alike(desk, probe, (*ASKS, "changed 0", "changed 1", "look 0 775", "register x", "changed 5"))

    def test_answers_of_each_kind(self):
        desk = desk_of("call 3\nmark\nmark\nlit 7\nput 773\nsleep\ngo 5")
        self.talk(
            desk, ("go 3 1 0 2 600", "turns; 15363 0"), ("sent", "5 7"), ("frames", "0 3 call"), ("register a", "7"),
            ("register zero", "no"), ("set zero yes", "done"), ("register zero", "yes"),
            ("trace", "0 deed 0; 3 deed 3; 5 deed 4"), ("profile", "0 1 2; 3 1 1; 4 1 2"), ("spent", "-1 2; 3 5"),
            ("mark 3 hard", "done"), ("mark 700 soft", "done"), ("marks", "3 hard; 700 soft"),
            ("watch 1 512 600 rw", "done"), ("watches", "-; 512 600 rw"), ("watch 0 1 1 r", "done"),
            ("watches", "1 1 r; 512 600 rw"), ("go 5", "turns"), ("idle", "4"), ("turns", "8"), ("keep", "0"),
            ("keep", "1"),
            ("stands", "12 12"), ("unmark 700", "done"), ("plan 15363 0 0 1031 3845 19456 1", "write 6 1"),
            ("plan 15363 1", "erase 0; write 0 15363 1"), ("unlike 0 0", "0"), ("unlike", "0"),
            ("unlike " + " ".join("5" * 65), "0 1 2"),
            ("fault bit 99 600 3", "done"), ("fault power 98", "done"), ("faults", "power 98; bit 99 600 3"),
            ("fault read 13 1", "done"), ("faults", "read 13 1; power 98; bit 99 600 3"), ("poke 600 4", "done"),
            ("changed 0", "600 0 4"), ("changed 1", "600 0 4"), ("go 100", "mark 3"),
            ("met", "98 power 98; 100 bit 99 600 3"),
        )

    def test_causes(self):
        desk = desk_of("call 3\nput 600\nmark\nlit 7\nret")
        self.talk(
            desk, ("go 0", "turns"), ("in", "turns"), ("out 9", "done"), ("watch 1 600 601 w", "done"),
            ("over 3", "watch 1 600 w"), ("go 3", "mark 2"), ("stop", "mark 2"), ("in", "mark 2"), ("over 1", "mark 2"),
            ("set pc 300", "done"), ("stop", "none"), ("in", "none 300"), ("set pc 1000", "done"),
            ("go 5", "far 1000 1000"),
            ("set pc 0", "done"), ("mark 3 hard", "done"), ("go 9 1 3 1 600 5 5", "mark 3; 1031 7"),
            ("over 0", "turns"),
            ("out 0", "turns"), ("out 9", "done"), ("out 9", "refused noframe"),
        )


class Does(Rows):
    def pair(self, text=BUSY):
        return desk_of(text, LINE), Probe(typed(text)[0], list(LINE))

    def test_memory_and_registers(self):
        desk, probe = self.pair()
        self.talk(
            desk, ("poke 600 65535", "done"), ("poke 773 9", "done"), ("set a 65535", "done"), ("set sp 3", "done"),
            ("set lets yes", "done"), ("set asleep yes", "done"), ("set asleep no", "done"), ("set pc 0", "done"),
        )
        probe.poke(600, 65535)
        probe.poke(773, 9)
        for name, thing in (("a", 65535), ("sp", 3), ("lets", True)):
            probe.set_register(name, thing)
        self.alike(desk, probe)

    def test_marks_and_watches(self):
        desk, probe = self.pair()
        rows = "mark 3 hard", "mark 600 soft", "mark 9 soft", "unmark 9", "watch 0 1 2 r", "watch 1 5 5 w", "unwatch 0"
        self.talk(desk, *[(row, "done") for row in rows])
        probe.mark(3, True)
        probe.mark(600, False)
        probe.mark(9, False)
        probe.unmark(9)
        probe.watch(1, 5, 5, "w")
        self.alike(desk, probe)
        self.talk(desk, ("clear", "done"))
        probe.clear_marks()
        self.alike(desk, probe)

    def test_going(self):
        desk, probe = self.pair()
        for row, asked in (
            ("go 40 3 600 39 5 40 6", lambda: probe.go(40, [(3, 600), (39, 5), (40, 6)])),
            ("in", lambda: step_in(probe)),
            ("over 50", lambda: step_over(probe, 50)), ("over 1", lambda: step_over(probe, 1)),
            ("go 7", lambda: probe.go(7)),
            ("go 0", lambda: probe.go(0)), ("go 300", lambda: probe.go(300)),
            ("go 1 0 5 0 6", lambda: probe.go(1, [(0, 5), (0, 6)])),
        ):
            told = asked()
            if row[:2] == "go":
                told = told_of(told[0]) + "".join(["; " + told_of(told[1])] * (told[1] != []))
                self.assertEqual(desk.say(row), told, row)
            else:
                self.assertEqual(desk.say(row), told_of(told), row)
            self.alike(desk, probe)
        while not frames_of(probe):
            self.talk(desk, ("in", told_of(step_in(probe))))
        self.talk(desk, ("out 90", told_of(step_out(probe, 90))))
        self.alike(desk, probe)

    def test_forget_untrace_uncount(self):
        desk, probe = self.pair("call 1\nret\nret\nret")
        desk.say("go 4 1 5")
        self.talk(desk, ("strays", "1"), ("forget", "done"), ("strays", "0"), ("peeked", "1"))
        self.talk(desk, ("uncount", "done"), ("profile", "none"), ("spent", "none"), ("peeked", "0"))
        self.talk(desk, ("trace", "0 deed 0; 3 deed 1; 5 deed 1; 7 deed 0"), ("untrace", "done"), ("trace", "none"))
        self.talk(desk, ("turns", "4"), ("faded", "0"))
        probe.go(40)
        clear_trace(probe)
        self.assertEqual(faded(probe), 0)

    def test_flash(self):
        desk, probe = self.pair()
        image = typed(BUSY)[0]
        words = " ".join(str(word) for word in image[:9])
        self.talk(
            desk, ("erase 5", "done"), ("write 500 1 2 3", "done"), ("write 5", "done"), (f"cut 0 3 {words}", "done"),
            (f"load {words}", told_of(self.after(probe, image))), (f"load {words}", "none"), ("load", "erase 0"),
            ("erase 15", "done"),
        )
        load(probe, [])
        erase(probe, 15)
        self.alike(desk, probe)

    def after(self, probe, image):
        erase(probe, 5)
        write(probe, 500, [1, 2, 3])
        load_cut(probe, image[:9], 0, 3)
        return load(probe, image[:9])

    def test_cut_takes_its_numbers_in_order(self):
        desk, probe = Desk([0] * 40, []), Probe([0] * 40, [])
        self.talk(desk, ("cut 1 2 1 2 3", "done"), ("look 0 5", "1 2 65535 65535 65535"))
        load_cut(probe, [1, 2, 3], 1, 2)
        self.alike(desk, probe)
        self.talk(desk, ("cut 0 2 1 2 3", "refused noword"), ("cut 1 32 1 2 3", "done"))
        self.talk(desk, ("look 2 2", "3 65535"), ("plan 1 2 3", "none"), ("cut 0 0 1 2 3", "refused noword"))

    def test_faults_and_stands(self):
        desk, probe = self.pair()
        self.talk(
            desk, ("fault bit 50 600 3", "done"), ("fault read 20 65535", "done"), ("fault power 100", "done"),
            ("keep", "0"), ("go 60", "turns"), ("keep", "1"), ("goback 0", "done"), ("goback 1", "done"),
            ("goback 0", "done"), ("go 5", "turns"),
        )
        put_fault(probe, ("bit", 50, 600, 3))
        put_fault(probe, ("read", 20, 65535))
        put_fault(probe, ("power", 100))
        keep(probe)
        probe.go(60)
        keep(probe)
        go_back(probe, 0)
        probe.go(5)
        self.alike(desk, probe, (*ASKS, "changed 0", "changed 1"))
        self.talk(desk, ("fault power 900", "done"), ("fault power 901", "done"), ("faults", "power 900; power 901"))
        self.talk(desk, ("drop", "done"), ("faults", "none"))


class Refused(Rows):
    def test_each_refusal(self):
        desk = Desk([3] * 40, [])
        self.talk(
            desk, ("poke 5 5", "refused barred flash"), ("poke 774 5", "refused barred far"),
            ("poke 1023 5", "refused barred far"),
            ("poke 772 5", "refused barred still"), ("poke 1024 5", "refused noword"),
            ("poke 5 65536", "refused noword"),
            ("look 774 0", "refused noword"), ("look 0 775", "refused noword"), ("register c", "refused noword"),
            ("register A", "refused noword"), ("set c 5", "refused noword"), ("set a yes", "refused noword"),
            ("set zero 1", "refused noword"), ("set a 65536", "refused noword"), ("set beat 5", "refused noword"),
            ("mark 768 hard", "refused noword"), ("mark 3 hard", "done"), ("mark 3 soft", "refused taken"),
            ("mark 4 hard", "done"), ("mark 5 hard", "refused toomany"), ("unmark 5", "refused nomark"),
            ("watch 2 1 1 r", "refused noword"), ("watch 0 5 4 r", "refused noword"),
            ("watch 0 1 1 x", "refused noword"),
            ("watch 0 1 1 wr", "refused noword"), ("unwatch 0", "refused nomark"), ("unwatch 2", "refused noword"),
            ("erase 16", "refused noword"), ("write 512", "refused noword"), ("write 0 4", "refused unerased 0"),
            ("write 35 3 3 4", "refused unerased 37"), ("plan 65536", "refused noimage"),
            ("load 65536", "refused noimage"),
            ("unlike 65536", "refused noimage"), ("cut 0 0 65536", "refused noimage"),
            ("plan " + " ".join(["0"] * 513), "refused noimage"), ("mark 33 soft", "done"),
            ("erase 1", "refused marked 33"),
            ("write 30 3 3 3 3", "refused marked 33"), ("load", "refused marked 33"), ("cut 9 9", "refused marked 33"),
            ("fault bit 5", "refused noword"), ("fault power", "refused noword"), ("fault pow 5", "refused noword"),
            ("fault power 0", "refused noword"), ("changed 0", "refused noword"), ("goback 0", "refused noword"),
            ("out 5", "refused noframe"), ("go 5 0 774", "refused noword"), ("back 1", "refused noturn"),
            ("forth 1", "refused noturn"), ("back 9999999", "refused noturn"), ("what", "refused norow"),
        )
        for bit in range(16):
            self.talk(desk, (f"fault bit 5 600 {bit}", "done"), ("keep", str(bit)))
        self.talk(desk, ("fault bit 5 601 0", "refused toomany"), ("keep", "refused toomany"))

    def test_what_is_refused_changes_nothing(self):
        desk, probe = desk_of(BUSY, LINE), Probe(typed(BUSY)[0], list(LINE))
        desk.say("go 90")
        probe.go(90)
        rows = "poke 5 5", "poke 9 70000", "set a no", "mark 800 soft", "unmark 3", "watch 0 9 8 r", "unwatch 1", \
            "erase 16", "write 0 65535", "load 70000", "cut 9 0", "fault power 3", "goback 0", "go 5 3 774", "back 91", "forth 1", \
            "go", "in 5", "keep 5", "nothing"
        for row in rows:
            self.assertEqual(desk.say(row).split(" ")[0], "refused", row)
            self.alike(desk, probe)


class NoRows(Rows):
    def test_what_is_no_row(self):
        desk = desk_of(BUSY)
        rows = [
            "", " ", "  ", "look", "look 1", "look 1 2 3", "look  1 2", "look 1  2", " look 1 2", "look 1 2 ",
            "look 01 2",
            "look 1 02", "look 00 1", "look -1 2", "look +1 2", "look 1 2.", "look 1 x", "look 1 12345678",
            "look 00000001 1",
            "Look 1 2", "LOOK 1 2", "loo 1 2", "looks 1 2", "look\n1 2", "look 1 2\n", "look 1\n 2", "look\t1\t2",
            "register",
            "register ", "register a b", "stop 1", "stop ", " stop", "stop\n", "sent 0", "turns now", "marks 1",
            "wear 0",
            "watches 0", "frames 0", "strays 1", "trace 5", "faded 1", "profile 1", "spent 1", "idle 1", "peeked 1",
            "plan x",
            "plan 1 x", "plan 1 02", "plan 1  2", "plan ", "plan 12345678", "unlike x", "unlike ", "unlike 1 ",
            "faults 1",
            "met 1", "stands 1", "changed", "changed x", "changed 0 0", "changed ", "poke", "poke 5", "poke 600 5 5",
            "poke x 5", "poke 600 yes", "poke 600 -5", "set", "set a", "set a x", "set a Yes", "set a 5 5", "set a 05",
            "set a true", "set a 12345678", "mark", "mark 5", "mark 5 x", "mark 5 Hard", "mark hard 5",
            "mark 5 hard soft",
            "mark x hard", "unmark", "unmark x", "unmark 5 5", "clear 5", "clear marks", "watch", "watch 0 1 2",
            "watch 0 1 2 r w",
            "watch x 1 2 r", "watch 0 x 2 r", "watch 0 1 x r", "unwatch", "unwatch x", "unwatch 0 0", "forget 1",
            "untrace 1",
            "uncount 1", "erase", "erase x", "erase 1 1", "write", "write x", "write 5 x", "write 5 1 2 03", "cut",
            "cut 1",
            "cut x 1", "cut 1 x", "cut 1 1 x", "fault", "fault bit x", "fault bit 5 5 x", "fault ", "fault power 05",
            "drop 1",
            "goback", "goback x", "goback 0 0", "back", "back x", "back 1 1", "back -1", "back 00", "forth", "forth x",
            "forth 1 1", "go", "go x", "go 1 0", "go 1 0 5 1", "go 1 0 x", "go 1 x 5", "go  1", "go 1 ", "in 1", "in ",
            "over",
            "over x", "over 1 1", "out", "out x", "out 1 1", "load x", "load 1 x", "keep 1", "keep ", "say", "log",
            "plain", "1",
            "5 look", "done", "norow", "refused", "stop_told", "step_in", "unlike_pages", "peek 5", "turn", "turns\n",
            "\nturns",
            "\n", "go_back 0", "yes", "1234567", "none", "-", ";",
        ]
        before = [desk.say(row) for row in ASKS]
        for row in rows:
            self.talk(desk, (row, "refused norow"))
        self.assertEqual([desk.say(row) for row in ASKS], before)

    def test_any_one_word_is_left_to_the_function(self):
        desk = desk_of(BUSY)
        for word in ("x", "5", "05", "a\nb", "\n", "A", "yes", "-", "a.b", "a\n"):
            self.talk(desk, (f"register {word}", "refused noword"), (f"set {word} 5", "refused noword"))
            self.talk(desk, (f"watch 0 1 2 {word}", "refused noword"), (f"fault {word}", "refused noword"))
            self.talk(desk, (f"fault {word} 5 5 5", "refused noword"), (f"set {word} yes", "refused noword"))

    def test_numbers_at_their_edges(self):
        desk = desk_of("lit 5\ngo 0")
        self.talk(
            desk, ("look 0 0", "none"), ("look 9999999 0", "refused noword"), ("look 10000000 0", "refused norow"),
            ("go 1 9999999 5", "turns"), ("go 1 10000000 5", "refused norow"), ("go 9 9999999 774", "refused noword"),
            ("fault power 1000000", "done"), ("fault power 1000001", "refused noword"), ("back 0", "done"),
            ("forth 0", "done"),
            ("over 9999999", "done"), ("unmark 9999999", "refused nomark"),
        )


class Logs(Rows):
    ROWS = ("go 20", "what", "keep", "poke 5 5", "register a", "go 30 5 600", "back 7", "forth 3", "sent", "", "out 9",
        "turns")

    def said(self):
        desk = desk_of(BUSY, LINE)
        return desk, [(row, desk.say(row)) for row in self.ROWS]

    def test_all_rows_said(self):
        desk, due = self.said()
        self.assertEqual(desk.log(), due)
        self.assertEqual([row for row in due if row[1] == "refused norow"],
            [("what", "refused norow"), ("", "refused norow")])
        self.assertEqual(due[3], ("poke 5 5", "refused barred flash"))
        self.assertEqual(Desk([], []).log(), [])

    def test_it_is_the_asker_s_own(self):
        desk, due = self.said()
        desk.log().clear()
        desk.log().append(5)
        self.assertEqual(desk.log(), due)
        desk.say("turns")
        self.assertEqual(desk.log()[:-1], due)

    def test_replayed(self):
        image = typed(BUSY)[0]
        log = self.said()[1]
        before = list(log)
        self.assertIsNone(replayed(image, list(LINE), log))
        self.assertIsNone(replayed(image=image, line=list(LINE), log=log))
        self.assertIsNone(replayed(image, list(LINE), []))
        self.assertEqual(log, before)
        for number in range(len(log)):
            for answer in ("", "turns", "done\n", "x", log[number][1] + " ", log[number][1] + "0"):
                if answer == log[number][1]:
                    continue
                wrong = log[:number] + [(log[number][0], answer)] + log[number + 1:]
                self.assertEqual(replayed(image, list(LINE), wrong), number)
                self.assertEqual(replayed(image, list(LINE), wrong + [("turns", "x")]), number)
        self.assertEqual(replayed(image, list(LINE), log + [("turns", "x")]), len(log))

    def test_replayed_on_another_board(self):
        image = typed(BUSY)[0]
        log = self.said()[1]
        self.assertIsNotNone(replayed(image, [], log + [("look 772 1", "2")]))
        self.assertEqual(replayed([5], [], log), 0)
        self.assertEqual(replayed([5], [], [("turns", "0"), ("look 0 1", "6")]), 1)


class Whole(Rows):
    def test_a_desk_s_board_does_what_the_same_board_does_alone(self):
        image = typed(BUSY)[0]
        desk, board = Desk(list(image), list(LINE)), Board(image, list(LINE))
        for row in ("mark 50 hard", "mark 3 soft", "watch 0 600 600 r", "go 30", "keep", "go 90", "in", "over 40",
            "trace"):
            desk.say(row)
        for _ in range(int(desk.say("turns"))):
            board.turn()
        self.assertEqual(board_stands(desk.plain()), board_stands(board))
        plain = desk.plain()
        plain.turn()
        self.assertEqual(board_stands(desk.plain()), board_stands(board))

    def test_plain_has_own_words(self):
        desk = Desk([5, 6], [])
        desk.say("mark 1 soft")
        desk.say("poke 600 3")
        desk.say("mark 600 soft")
        probe = Probe([5, 6], [])
        probe.poke(600, 3)
        self.assertEqual(board_stands(desk.plain()), probe_stands(probe))


if __name__ == "__main__":
    unittest.main()
