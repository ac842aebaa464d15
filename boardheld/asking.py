"""The rows of a desk that only ask. Each is done by a function of a probe and of what stands in the row."""

from boardheld.faults import kept_beats, met_faults, unlike_words, waiting_faults
from boardheld.programming import plan, unlike_pages
from boardheld.steps import frames_of, strays_of
from boardheld.traces import faded, idle, peeked, profile, spent, trace


def ask_look(probe, things):
    return probe.look(things[0], things[1])


def ask_register(probe, things):
    return probe.register_of(things[0])


def ask_stop(probe, things):
    return probe.stop_told()


def ask_sent(probe, things):
    return probe.out()


def ask_turns(probe, things):
    return probe.turns()


def ask_marks(probe, things):
    return probe.marks()


def ask_wear(probe, things):
    return probe.wear()


def ask_watches(probe, things):
    return probe.watches()


def ask_frames(probe, things):
    return frames_of(probe)


def ask_strays(probe, things):
    return strays_of(probe)


def ask_trace(probe, things):
    return trace(probe)


def ask_faded(probe, things):
    return faded(probe)


def ask_profile(probe, things):
    return profile(probe)


def ask_spent(probe, things):
    return spent(probe)


def ask_idle(probe, things):
    return idle(probe)


def ask_peeked(probe, things):
    return peeked(probe)


def ask_plan(probe, things):
    return plan(probe, things[0])


def ask_unlike(probe, things):
    return unlike_pages(probe, things[0])


def ask_faults(probe, things):
    return waiting_faults(probe)


def ask_met(probe, things):
    return met_faults(probe)


def ask_stands(probe, things):
    return kept_beats(probe)


def ask_changed(probe, things):
    return unlike_words(probe, things[0])


ASKINGS = {
    "look": ask_look, "register": ask_register, "stop": ask_stop, "sent": ask_sent, "turns": ask_turns,
    "marks": ask_marks, "wear": ask_wear, "watches": ask_watches, "frames": ask_frames, "strays": ask_strays,
    "trace": ask_trace, "faded": ask_faded, "profile": ask_profile, "spent": ask_spent, "idle": ask_idle,
    "peeked": ask_peeked, "plan": ask_plan, "unlike": ask_unlike, "faults": ask_faults, "met": ask_met,
    "stands": ask_stands, "changed": ask_changed,
}
