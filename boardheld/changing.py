"""The rows of a desk that do something, but back and forth.

Each is done by a function of a probe and of what stands in the row. Those of CHANGES tell nothing; those of
GOINGS let turns go by, and tell what they come to; those of TELLINGS tell something else.
"""

from boardheld.faults import drop_faults, go_back, keep, put_fault
from boardheld.programming import erase, load, load_cut, write
from boardheld.steps import forget_frames, step_in, step_out, step_over
from boardheld.traces import clear_counts, clear_trace


def do_poke(probe, things):
    probe.poke(things[0], things[1])


def do_set(probe, things):
    probe.set_register(things[0], things[1])


def do_mark(probe, things):
    probe.mark(things[0], things[1])


def do_unmark(probe, things):
    probe.unmark(things[0])


def do_clear(probe, things):
    probe.clear_marks()


def do_watch(probe, things):
    probe.watch(things[0], things[1], things[2], things[3])


def do_unwatch(probe, things):
    probe.unwatch(things[0])


def do_forget(probe, things):
    forget_frames(probe)


def do_untrace(probe, things):
    clear_trace(probe)


def do_uncount(probe, things):
    clear_counts(probe)


def do_erase(probe, things):
    erase(probe, things[0])


def do_write(probe, things):
    write(probe, things[0], things[1])


def do_cut(probe, things):
    load_cut(probe, things[2], things[0], things[1])


def do_fault(probe, things):
    put_fault(probe, (things[0], *things[1]))


def do_drop(probe, things):
    drop_faults(probe)


def do_goback(probe, things):
    go_back(probe, things[0])


def tell_load(probe, things):
    return load(probe, things[0])


def tell_keep(probe, things):
    return keep(probe)


def let_go(probe, things):
    return probe.go(things[0], things[1])


def let_in(probe, things):
    return step_in(probe), []


def let_over(probe, things):
    return step_over(probe, things[0]), []


def let_out(probe, things):
    return step_out(probe, things[0]), []


CHANGES = {
    "poke": do_poke, "set": do_set, "mark": do_mark, "unmark": do_unmark, "clear": do_clear, "watch": do_watch,
    "unwatch": do_unwatch, "forget": do_forget, "untrace": do_untrace, "uncount": do_uncount,
    "erase": do_erase, "write": do_write, "cut": do_cut, "fault": do_fault, "drop": do_drop,
    "goback": do_goback,
}

TELLINGS = {"load": tell_load, "keep": tell_keep}

# Each tells the cause, and the list of the words peeked.
GOINGS = {"go": let_go, "in": let_in, "over": let_over, "out": let_out}
