"""Faults put into a board that is held, and its stands, kept and gone back to."""

from boardheld.memory import PLACES_END


def put_fault(probe, fault):
    """Lays a fault up."""
    probe.mishaps.lay(fault, probe.board.beat)


def drop_faults(probe):
    """No fault waits any more."""
    probe.mishaps.rows = []


def waiting_faults(probe):
    """All faults that wait, in the order in which they come."""
    return list(probe.mishaps.rows)


def met_faults(probe):
    """All faults that came, with the beats at which they did."""
    return list(probe.mishaps.met_rows)


def keep(probe):
    """Keeps how the board stands: the number of that."""
    return probe.stands.keep(probe.board, probe.frames)


def go_back(probe, number):
    """Makes the board stand as it stood when this number was told."""
    stand = probe.stands.numbered(number)
    probe.board.stand_as(stand.board)
    probe.frames = stand.frames.twin()


def kept_beats(probe):
    """The beat of each stand kept."""
    return [stand.board.beat for stand in probe.stands.rows]


def unlike_words(probe, number):
    """All words that are others now than in a stand: tuples (address, the stand's word, the word now)."""
    words = probe.stands.numbered(number).board.memory.words
    now = probe.board.memory.words
    return [(at, words[at], now[at]) for at in range(PLACES_END) if words[at] != now[at]]
