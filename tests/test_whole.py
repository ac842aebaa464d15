"""Points 1 to 4 over the whole program: what is handed in and told, names of arguments, logs over all that stands."""

import random
import unittest

from boardheld import errors
from boardheld.board import Board
from boardheld.faults import (
    drop_faults, go_back, keep, kept_beats, met_faults, put_fault, unlike_words, waiting_faults,
)
from boardheld.link import Far, Near
from boardheld.listing import listed, row_of, typed
from boardheld.logs import Desk, replayed
from boardheld.making import Program
from boardheld.parting import first_parting
from boardheld.probe import Probe
from boardheld.programming import erase, load, load_cut, plan, unlike_pages, write
from boardheld.rowwise import Rowwise
from boardheld.steps import forget_frames, frames_of, step_in, step_out, step_over, strays_of
from boardheld.traces import clear_counts, clear_trace, faded, idle, peeked, profile, spent, trace

from tests.test_desk import ASKS, asked_of
from tests.test_held import BUSY, board_stands, probe_stands
from tests.test_making import some_program

LINE = [(beat, beat % 4) for beat in range(3, 900, 7)]


def busy_probe():
    """A probe of which each list that it tells has something."""
    probe = Probe(typed(BUSY)[0], list(LINE))
    keep(probe)
    probe.go(90, [(3, 600)])
    while not frames_of(probe):
        step_in(probe)
    probe.mark(700, True)
    probe.mark(701, False)
    probe.watch(0, 1, 2, "r")
    beat = probe.register_of("beat")
    put_fault(probe, ("bit", beat + 1, 710, 1))
    put_fault(probe, ("power", beat + 900))
    probe.go(1)
    probe.poke(773, 5)
    return probe


def lists_of(probe):
    """All that a probe tells by lists."""
    return [
        probe.look(0, 774), probe.out(), probe.marks(), probe.wear(), probe.watches(), frames_of(probe), trace(probe),
        profile(probe), spent(probe), waiting_faults(probe), met_faults(probe), kept_beats(probe),
        unlike_words(probe, 0),
        unlike_pages(probe, []),
    ]


class HandedIn(unittest.TestCase):
    def test_lists_are_neither_changed_nor_kept(self):
        image, line = typed(BUSY)[0], list(LINE)
        made = [Board(image, line), Probe(image, line), Desk(image, line), Far(image, line)]
        self.assertEqual((image, line), (typed(BUSY)[0], LINE))
        due = board_stands(Board(typed(BUSY)[0], list(LINE)))
        image[:] = [0] * 99
        line[:] = [(1, 1)]
        boards = [made[0], made[1].plain(), made[2].plain(), made[3].desk().plain()]
        for board in boards:
            self.assertEqual(board_stands(board), due)
        other = Board(typed(BUSY)[0], list(LINE))
        for _ in range(200):
            other.turn()
            for board in boards:
                board.turn()
        for board in boards:
            self.assertEqual(board_stands(board), board_stands(other))

    def test_images_words_peeks_and_logs(self):
        probe = Probe([0] * 40, [])
        image, words, peeks = [1, 2, 3], [7, 8], [(0, 5), (1, 600)]
        self.assertEqual(plan(probe, image), plan(probe, [1, 2, 3]))
        load(probe, image)
        write(probe, 100, words)
        probe.go(1, peeks)
        load_cut(probe, image + [5], 0, 1)
        unlike_pages(probe, image)
        self.assertEqual((image, words, peeks), ([1, 2, 3], [7, 8], [(0, 5), (1, 600)]))
        stood = probe_stands(probe)
        image[0] = words[0] = 9
        peeks.clear()
        self.assertEqual(probe_stands(probe), stood)
        log = [("turns", "0"), ("go 1", "x")]
        self.assertEqual(replayed(image, [], log), 1)
        self.assertEqual((log, image), ([("turns", "0"), ("go 1", "x")], [9, 2, 3]))
        first_parting(image, words, peeks, 5)
        self.assertEqual((image, words, peeks), ([9, 2, 3], [9, 8], []))
        self.assertEqual(listed(image), "word 9\nword 2\nword 3")
        self.assertEqual(image, [9, 2, 3])

    def test_programs(self):
        program, line = Program("var x\nx = in\nout x\nout in"), [(1, 3)]
        rowwise = Rowwise(program, line)
        line[0] = (1, 2)
        program.image().clear()
        program.rows_at().clear()
        program.vars_at().clear()
        while rowwise.into(100) == ("done",):
            pass
        self.assertEqual([word for _, word in rowwise.probe_of().out()], [0, 3])


class Told(unittest.TestCase):
    def spoil(self, thing):
        """Spoils a list and the lists within it."""
        for part in thing:
            for inner in part if isinstance(part, tuple) else ():
                if isinstance(inner, list):
                    inner.append(5)
        thing.reverse()
        thing.append("spoilt")

    def test_lists_of_a_probe(self):
        probe = busy_probe()
        due = lists_of(probe)
        self.assertTrue(all(due))
        for thing in lists_of(probe):
            self.spoil(thing)
        self.assertEqual(lists_of(probe), due)

    def test_lists_within_lists(self):
        probe = Probe([0] * 40, [])
        image = [1, 2, 3]
        self.spoil(plan(probe, image))
        self.assertEqual(plan(probe, image), [("erase", 0), ("write", 0, [1, 2, 3]), ("erase", 1)])
        steps = load(probe, image)
        self.spoil(steps)
        self.assertEqual(probe.look(0, 4), [1, 2, 3, 65535])
        self.assertEqual(image, [1, 2, 3])

    def test_what_goes_on_behind_changes_nothing_told(self):
        probe = busy_probe()
        told = lists_of(probe)
        due = [list(thing) for thing in told]
        words = probe.go(2, [(0, 5), (1, 6)])[1]
        first = list(words)
        probe.clear_marks()
        erase(probe, 3)
        probe.watch(1, 5, 5, "w")
        drop_faults(probe)
        forget_frames(probe)
        keep(probe)
        probe.go(300, [(0, 5)])
        go_back(probe, 0)
        clear_trace(probe)
        clear_counts(probe)
        self.assertEqual(told, due)
        self.assertEqual(words, first)

    def test_texts_and_dicts(self):
        told = typed("a:\nlit a\nb:")
        told[0].append(5)
        told[1]["c"] = 5
        self.assertEqual(typed("a:\nlit a\nb:"), ([1024], {"a": 0, "b": 1}))
        desk = Desk([], [])
        desk.say("turns")
        desk.log().clear()
        self.assertEqual(desk.log(), [("turns", "0")])

    def test_what_is_only_asked_changes_nothing(self):
        probe = busy_probe()
        due = lists_of(probe), probe_stands(probe)
        for _ in range(3):
            lists_of(probe)
            plan(Probe([], []), [5])
            for asked in (strays_of, faded, idle, peeked, frames_of):
                asked(probe)
            for asked in (probe.stop_told, probe.turns, probe.plain):
                asked()
            probe.register_of("a")
            unlike_pages(probe, [5])
        self.assertEqual((lists_of(probe), probe_stands(probe)), due)


class Names(unittest.TestCase):
    """Each function and method takes its arguments by their names."""

    def test_board_and_listing(self):
        self.assertEqual(row_of(word=5), "word 5")
        self.assertEqual(listed(image=[5]), "word 5")
        self.assertEqual(typed(text="word 5"), ([5], {}))
        board = Board(image=[5], line=[])
        self.assertEqual((board.memory.word_at(address=0), board.turn(), board.twin().beat), (5, "stopped", 0))

    def test_probe(self):
        probe = Probe(image=typed("loop:\ncall more\ngo loop\nmore:\nret")[0], line=[])
        self.assertEqual(probe.look(address=600, many=1), [0])
        self.assertEqual(probe.register_of(name="pc"), 0)
        probe.poke(address=600, word=5)
        probe.set_register(name="a", thing=5)
        probe.mark(address=600, hard=False)
        probe.unmark(address=600)
        probe.watch(number=0, low=1, high=2, kind="r")
        probe.unwatch(number=0)
        self.assertEqual(probe.go(most=1, peeks=[(0, 600)]), (("turns",), [5]))
        self.assertEqual(probe.go(most=0, peeks=None), (("turns",), []))
        self.assertEqual(step_in(probe=probe), ("turns",))
        self.assertEqual(step_over(probe=probe, most=0), ("turns",))
        probe.go(most=2)
        self.assertEqual(step_out(probe=probe, most=9), ("done",))
        for told in (frames_of, strays_of, trace, faded, profile, spent, idle, peeked, waiting_faults, met_faults,
            kept_beats):
            self.assertIsNotNone(told(probe=probe))
        for done in (forget_frames, clear_trace, clear_counts, drop_faults):
            self.assertIsNone(done(probe=probe))

    def test_the_others(self):
        probe = Probe([0] * 4, [])
        self.assertEqual((keep(probe=probe), unlike_words(probe=probe, number=0)), (0, []))
        put_fault(probe=probe, fault=("power", 5))
        go_back(probe=probe, number=0)
        erase(probe=probe, page=0)
        write(probe=probe, address=0, words=[5])
        self.assertEqual(plan(probe=probe, image=[5]), [])
        self.assertEqual(unlike_pages(probe=probe, image=[5]), [])
        load_cut(probe=probe, image=[4], at=0, done=0)
        self.assertEqual(load(probe=probe, image=[5]), [])
        desk = Desk(image=[], line=[])
        self.assertEqual(desk.say(row="turns"), "0")
        self.assertIsNone(replayed(image=[], line=[], log=desk.log()))
        self.assertEqual(first_parting(image=[1025], other=[1026], line=[], most=1), 0)
        rowwise = Rowwise(program=Program(text="var x\nx = 5\nx = 6\ndo r\nto r\nout x\nend"), line=[])
        self.assertEqual(rowwise.worth(name="x"), 0)
        rowwise.give(name="x", word=7)
        self.assertEqual(rowwise.to_row(number=3, most=99), ("done",))
        self.assertEqual(rowwise.into(most=99), ("done",))
        self.assertEqual(rowwise.out_of(most=1), ("turns",))
        self.assertEqual(rowwise.over(most=0), ("turns",))
        near, far = Near(), Far(image=[], line=[])
        self.assertEqual(near.hear(letter=far.hear(letter=near.ask(row="turns"))), "0")

    def test_refusals(self):
        made = (
            errors.NoText(at=3), errors.Barred(why="far"), errors.Marked(address=5), errors.Unerased(address=6),
        )
        self.assertEqual([vars(error) for error in made], [{"at": 3}, {"why": "far"}, {"address": 5}, {"address": 6}])
        for name in ("NoImage", "NoWord", "Taken", "TooMany", "NoMark", "NoFrame", "NoRow", "NoTurn", "NoLetter",
            "Waiting"):
            kind = getattr(errors, name)
            self.assertEqual((kind.__bases__, str(kind("told")), str(kind())), ((errors.BoardError,), "told", ""))


class Logs(unittest.TestCase):
    ROWS = (
        "go 9", "go 30 2 600 5 5", "go 3", "in", "over 9", "out 9", "poke 600 5", "poke 773 6", "poke 5 5", "set a 5",
        "set zero yes",
        "set pc 3", "mark 9 hard", "mark 600 soft", "mark 12 soft", "unmark 12", "clear", "watch 0 512 600 rw",
        "watch 1 773 773 w",
        "unwatch 1", "forget", "untrace", "uncount", "erase 15", "write 480 5 6", "cut 0 1 5 6", "load 1029", "keep",
        "goback 0",
        "goback 1", "drop", "back 1", "back 5", "forth 1", "forth 4", "what", "unwatch 0",
    )

    def test_logs_over_all_that_stands(self):
        for seed in range(60):
            chance = random.Random(seed)
            image = typed(BUSY)[0] if seed % 3 else Program(some_program(chance)).image()
            desk = Desk(list(image), list(LINE))
            for _ in range(40):
                beat = int(desk.say("register beat"))
                fault = chance.choice([f"bit {beat + 3} {chance.randrange(768)} 3", f"read {beat + 2} 5",
                    f"power {beat + 9}"])
                desk.say(chance.choice([*self.ROWS, f"fault {fault}"]))
                desk.say(chance.choice(ASKS))
            self.assertIsNone(replayed(list(image), list(LINE), desk.log()))
            # The same rows, asked from afar, tell the same.
            near, far = Near(), Far(list(image), list(LINE))
            for row, answer in desk.log():
                self.assertEqual(near.hear(far.hear(near.ask(row))), answer)
            self.assertEqual(far.desk().log(), desk.log())
            self.assertEqual(board_stands(far.desk().plain()), board_stands(desk.plain()))

    def test_what_is_only_asked_and_logged_changes_nothing_of_the_board(self):
        image = typed(BUSY)[0]
        desk, probe = Desk(list(image), list(LINE)), Probe(list(image), list(LINE))
        for row in ("mark 60 hard", "watch 0 700 701 rw", "keep", "fault power 99999"):
            desk.say(row)
        probe.mark(60, True)
        probe.watch(0, 700, 701, "rw")
        keep(probe)
        put_fault(probe, ("power", 99999))
        board = Board(list(image), list(LINE))
        for _ in range(150):
            desk.say("in")
            step_in(probe)
            board.turn()
            for row in ASKS:
                self.assertEqual(desk.say(row), asked_of(probe, row))
            self.assertEqual(board_stands(desk.plain()), board_stands(board))


if __name__ == "__main__":
    unittest.main()
