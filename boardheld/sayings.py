"""The rows that are said to a desk, and what stands in them."""

from boardheld.values import figured

FIGURES_MOST = 7

# The parts behind the head of each row: a number, any one word, a truth or a number, hard or soft; and as
# the last part as many numbers, or pairs of numbers, as one likes.
FORMS = {
    "look": ("number", "number"), "register": ("word",), "stop": (), "sent": (), "turns": (), "marks": (),
    "wear": (), "watches": (), "frames": (), "strays": (), "trace": (), "faded": (), "profile": (),
    "spent": (), "idle": (), "peeked": (), "plan": ("numbers",), "unlike": ("numbers",), "faults": (),
    "met": (), "stands": (), "changed": ("number",),
    "poke": ("number", "number"), "set": ("word", "thing"), "mark": ("number", "hardness"),
    "unmark": ("number",), "clear": (), "watch": ("number", "number", "number", "word"),
    "unwatch": ("number",), "forget": (), "untrace": (), "uncount": (), "erase": ("number",),
    "write": ("number", "numbers"), "cut": ("number", "number", "numbers"), "fault": ("word", "numbers"),
    "drop": (), "goback": ("number",), "back": ("number",), "forth": ("number",),
    "go": ("number", "pairs"), "in": (), "over": ("number",), "out": ("number",), "load": ("numbers",),
    "keep": (),
}

TRUTHS = {"yes": True, "no": False}
HARDNESSES = {"hard": True, "soft": False}


def saying_of(row):
    """The head of a row and the list of what stands behind it, None where it is no row."""
    parts = row.split(" ")
    if "" in parts or parts[0] not in FORMS:
        return None
    things = things_of(FORMS[parts[0]], parts[1:])
    if things is None:
        return None
    return parts[0], things


def things_of(kinds, parts):
    """What parts of a row stand for, None where they aren't of these kinds."""
    single = [kind for kind in kinds if kind not in ("numbers", "pairs")]
    if len(parts) < len(single) or (len(parts) > len(single) and len(single) == len(kinds)):
        return None
    things = [thing_of(kind, part) for kind, part in zip(single, parts)]
    if None in things:
        return None
    if len(single) < len(kinds):
        rest = numbers_of(parts[len(single):])
        if rest is None or (kinds[-1] == "pairs" and len(rest) % 2 == 1):
            return None
        things.append(paired(rest) if kinds[-1] == "pairs" else rest)
    return things


def thing_of(kind, part):
    """What one part of a row stands for, None where it isn't of this kind."""
    if kind == "word":
        return part
    if kind == "hardness":
        return HARDNESSES.get(part)
    if kind == "thing" and part in TRUTHS:
        return TRUTHS[part]
    return figured(part, FIGURES_MOST)


def numbers_of(parts):
    """The numbers that parts of a row stand for, None where one stands for none."""
    numbers = [figured(part, FIGURES_MOST) for part in parts]
    if None in numbers:
        return None
    return numbers


def paired(numbers):
    """Numbers by two: a list of tuples."""
    return [(numbers[at], numbers[at + 1]) for at in range(0, len(numbers), 2)]
