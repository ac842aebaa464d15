"""The last turns, and the counts of beats."""

from boardheld.counts import Counts, History


def trace(probe):
    """The last turns, the eldest first."""
    return list(probe.history.rows)


def faded(probe):
    """How many turns went by ahead of those kept."""
    return probe.history.faded


def clear_trace(probe):
    """Keeps no turn, and none faded."""
    probe.history = History()


def profile(probe):
    """For each address at which a deed was done: how often, and in how many beats."""
    deeds = probe.counts.deeds
    return sorted([(address, deeds[address][0], deeds[address][1]) for address in deeds])


def spent(probe):
    """How many beats went by in the frames that lead to each address."""
    return sorted(probe.counts.frames.items())


def idle(probe):
    """How many beats went by asleep."""
    return probe.counts.idle


def peeked(probe):
    """How many beats went by for peeks."""
    return probe.counts.peeked


def clear_counts(probe):
    """All counts are nought."""
    probe.counts = Counts()
