"""What is kept of the turns that went by: the last of them, and counts of beats."""

KEPT_TURNS = 32


class History:
    """The last turns, tuples (beat, sort, pc), the eldest first, and how many went by ahead of these."""

    def __init__(self):
        self.rows = []
        self.faded = 0

    def twin(self):
        """The same turns, that more are noted behind by themselves."""
        other = History()
        other.rows = list(self.rows)
        other.faded = self.faded
        return other

    def note(self, beat, sort, pc):
        """Notes a turn."""
        self.rows.append((beat, sort, pc))
        if len(self.rows) > KEPT_TURNS:
            del self.rows[0]
            self.faded += 1


class Counts:
    """Beats by what they went by for.

    deeds has by their addresses how often each was done and in how many beats, frames the beats by the
    addresses to which their frames lead.
    """

    def __init__(self):
        self.deeds = {}
        self.frames = {}
        self.idle = 0
        self.peeked = 0

    def twin(self):
        """The same counts, that go on by themselves."""
        other = Counts()
        other.deeds = dict(self.deeds)
        other.frames = dict(self.frames)
        other.idle = self.idle
        other.peeked = self.peeked
        return other

    def note_turn(self, sort, pc, beats, to):
        """Notes the beats of a turn, in the frame that leads to an address."""
        self.note_beats(beats, to)
        if sort == "asleep":
            self.idle += beats
        elif sort == "deed":
            times, before = self.deeds.get(pc, (0, 0))
            self.deeds[pc] = (times + 1, before + beats)

    def note_peek(self, to):
        """Notes the beat of a peek."""
        self.note_beats(1, to)
        self.peeked += 1

    def note_beats(self, beats, to):
        """Notes beats in the frame that leads to an address."""
        self.frames[to] = self.frames.get(to, 0) + beats
