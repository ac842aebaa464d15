"""What a desk is told, as a text."""


def answer_of(thing):
    """The text of what a row tells."""
    if isinstance(thing, list) and any([part is None or isinstance(part, tuple) for part in thing]):
        return "; ".join([row_answer_of(part) for part in thing])
    return part_answer_of(thing)


def row_answer_of(thing):
    """The text of one row of a list that has tuples, or None."""
    if thing is None:
        return "-"
    return part_answer_of(thing)


def part_answer_of(thing):
    """The text of a thing, parts of tuples and of lists one blank apart."""
    if thing is None or thing == []:
        return "none"
    if thing is True:
        return "yes"
    if thing is False:
        return "no"
    if isinstance(thing, (list, tuple)):
        return " ".join([part_answer_of(part) for part in thing])
    return str(thing)


def gone_answer_of(cause, words):
    """The text of the cause why a board is held again, and of the words that were peeked."""
    if words == []:
        return answer_of(cause)
    return f"{answer_of(cause)}; {answer_of(words)}"
