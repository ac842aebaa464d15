"""Steps by the frames that are open, and these frames."""

from boardheld.errors import NoFrame
from boardheld.frames import Frames


class OverEnd:
    """Behind a deed done with as many frames open as at first, when no more than these are open."""

    def __init__(self, depth):
        self.depth = depth
        self.deed_done = False

    def comes(self, sort, ahead, now):
        """Whether a turn, with so many frames ahead of it and now, is the end."""
        if sort == "deed" and ahead == self.depth:
            self.deed_done = True
        return self.deed_done and now <= self.depth


class OutEnd:
    """When fewer frames are open than at first."""

    def __init__(self, depth):
        self.depth = depth

    def comes(self, sort, ahead, now):
        """Whether a turn, with so many frames ahead of it and now, is the end."""
        return now < self.depth


def step_in(probe):
    """One turn."""
    return probe.let_go(1, {}, [], None)


def step_over(probe, most):
    """Lets turns go by till a deed is done with all that it calls."""
    return probe.let_go(most, {}, [], OverEnd(len(probe.frames.rows)))


def step_out(probe, most):
    """Lets turns go by till the innermost frame is left."""
    depth = len(probe.frames.rows)
    if depth == 0:
        raise NoFrame("no frame is open")
    return probe.let_go(most, {}, [], OutEnd(depth))


def frames_of(probe):
    """All open frames, the outermost first."""
    return list(probe.frames.rows)


def strays_of(probe):
    """How many ways back were stray."""
    return probe.frames.strays


def forget_frames(probe):
    """None is open then, and none was a stray."""
    probe.frames = Frames()
