"""A desk, which does what rows of text tell, and its log."""

from boardheld.answers import answer_of, gone_answer_of
from boardheld.asking import ASKINGS
from boardheld.changing import CHANGES, GOINGS, TELLINGS
from boardheld.course import Course
from boardheld.errors import Barred, Marked, NoFrame, NoImage, NoMark, NoRow, NoTurn, NoWord, Taken, TooMany, Unerased
from boardheld.probe import Probe
from boardheld.sayings import saying_of


class Desk:
    """A desk and its probe, made of an image and a line."""

    def __init__(self, image, line):
        self.course = Course(Probe(image, line))
        self.said = []

    def say(self, row):
        """Does what a row tells, and answers."""
        answer = self.answered(row)
        self.said.append((row, answer))
        return answer

    def log(self):
        """All rows said, with their answers."""
        return list(self.said)

    def plain(self):
        """A board that stands as the desk's one does, all words its own."""
        return self.course.probe.plain()

    def answered(self, row):
        """What is answered to a row, refused ones too."""
        try:
            return self.done(row)
        except Barred as barred:
            return f"refused barred {barred.why}"
        except Marked as marked:
            return f"refused marked {marked.address}"
        except Unerased as unerased:
            return f"refused unerased {unerased.address}"
        except NoImage:
            return "refused noimage"
        except NoWord:
            return "refused noword"
        except Taken:
            return "refused taken"
        except TooMany:
            return "refused toomany"
        except NoMark:
            return "refused nomark"
        except NoFrame:
            return "refused noframe"
        except NoRow:
            return "refused norow"
        except NoTurn:
            return "refused noturn"

    def done(self, row):
        """Does what a row tells: its answer, where it isn't refused."""
        saying = saying_of(row)
        if saying is None:
            raise NoRow("no row")
        head, things = saying
        if head in ASKINGS:
            asking = ASKINGS[head]
            return answer_of(asking(self.course.probe, things))
        if head in GOINGS:
            return self.let_go(head, things)
        if head == "back":
            self.course.back(things[0])
        elif head == "forth":
            self.course.forth(things[0])
        elif head in CHANGES:
            change = CHANGES[head]
            change(self.course.probe, things)
            self.course.note(head, things)
        else:
            return self.do_telling(head, things)
        return "done"

    def do_telling(self, head, things):
        """Does a row that does something, and tells what it comes to."""
        tell = TELLINGS[head]
        told = tell(self.course.probe, things)
        self.course.note(head, things)
        return answer_of(told)

    def let_go(self, head, things):
        """Does a row that lets turns go by: the course hears of these by itself."""
        going = GOINGS[head]
        cause, words = going(self.course.probe, things)
        # Where no turn went by, the row was done all the same.
        self.course.cut()
        return gone_answer_of(cause, words)


def replayed(image, line, log):
    """The number of the first row of a log that a new desk answers otherwise, None where there is none."""
    desk = Desk(image, line)
    for number, (row, answer) in enumerate(log):
        if desk.say(row) != answer:
            return number
    return None
