"""The frames that calls and interrupts open, and their ways back close."""

# Where the frames would lead that is told of beats outside of all frames.
OUTSIDE = -1


class Frames:
    """The open frames, tuples (at, to, kind), the outermost first, and how many ways back were stray."""

    def __init__(self):
        self.rows = []
        self.strays = 0

    def twin(self):
        """The same frames and strays, that go on by themselves."""
        other = Frames()
        other.rows = list(self.rows)
        other.strays = self.strays
        return other

    def follow(self, sort, did, at, to):
        """Follows a turn: its sort, the name of the deed done in it, and pc ahead of it and behind."""
        if sort == "interrupt":
            self.rows.append((at, to, "interrupt"))
        elif did == "call":
            self.rows.append((at, to, "call"))
        elif did == "ret":
            self.go_back_from("call")
        elif did == "back":
            self.go_back_from("interrupt")

    def go_back_from(self, kind):
        """Closes the innermost frame, where it is of this kind."""
        if self.rows and self.rows[-1][2] == kind:
            del self.rows[-1]
        else:
            self.strays += 1

    def innermost(self):
        """The address to which the innermost frame leads."""
        if not self.rows:
            return OUTSIDE
        return self.rows[-1][1]
