"""Flash erased page by page and written word by word, from outside."""

from boardheld.errors import Marked, NoImage, NoWord, Unerased
from boardheld.marks import PAGES, PAGE_WORDS
from boardheld.memory import ERASED, FLASH_END, WORD_MOST
from boardheld.values import is_between, is_image, is_word


def erase(probe, page):
    """Makes each word of a page 65,535."""
    if not is_between(page, 0, PAGES - 1):
        raise NoWord("no page")
    check_unmarked(probe, page * PAGE_WORDS, PAGE_WORDS)
    erase_first(probe, page, PAGE_WORDS)


def write(probe, address, words):
    """Puts words into flash, one behind another, where bits have to become 0 alone."""
    if not is_between(address, 0, FLASH_END - 1) or not isinstance(words, list):
        raise NoWord("no address of flash, or no words")
    if len(words) > FLASH_END - address or not all([is_word(word) for word in words]):
        raise NoWord("no words, or too many of them")
    check_unmarked(probe, address, len(words))
    now = probe.board.memory.words
    for at, word in enumerate(words):
        if needs_erasing(now[address + at], word):
            raise Unerased(address + at)
    write_words(probe, address, words)


def plan(probe, image):
    """The steps by which flash becomes an image."""
    due = due_of(image)
    check_unmarked(probe, 0, FLASH_END)
    steps = []
    for page in range(PAGES):
        steps.extend(steps_for(probe.board.memory.words, due, page))
    return steps


def load(probe, image):
    """Makes flash an image, and tells the steps by which it did."""
    steps = plan(probe, image)
    for step in steps:
        do_part(probe, step, size_of(step))
    return steps


def unlike_pages(probe, image):
    """The pages in which some word is another one than the image's."""
    due = due_of(image)
    now = probe.board.memory.words
    return [page for page in range(PAGES) if page_of(now, page) != page_of(due, page)]


def load_cut(probe, image, at, done):
    """Does the steps of a load ahead of the one numbered at, and so many words of that one alone."""
    steps = plan(probe, image)
    if not is_between(at, 0, len(steps) - 1):
        raise NoWord("no number of a step")
    if not is_between(done, 0, size_of(steps[at])):
        raise NoWord("no number of words of this step")
    for step in steps[:at]:
        do_part(probe, step, size_of(step))
    do_part(probe, steps[at], done)


def due_of(image):
    """All words that flash has due for an image, NoImage where it is none."""
    if not is_image(image):
        raise NoImage("no image")
    return image + [ERASED] * (FLASH_END - len(image))


def check_unmarked(probe, address, many):
    """Refuses words among which a soft mark stands."""
    swapped = probe.board.memory.swapped
    for at in range(address, address + many):
        if at in swapped:
            raise Marked(at)


def needs_erasing(now, word):
    """Whether a bit of a word would have to become 1."""
    return word & (WORD_MOST - now) != 0


def page_of(words, page):
    """The words of a page."""
    return words[page * PAGE_WORDS:(page + 1) * PAGE_WORDS]


def steps_for(words, due, page):
    """The steps by which a page becomes as is due."""
    wanted = page_of(due, page)
    now = page_of(words, page)
    if any([needs_erasing(word, other) for word, other in zip(now, wanted)]):
        return [("erase", page)] + writings(page * PAGE_WORDS, [ERASED] * PAGE_WORDS, wanted)
    return writings(page * PAGE_WORDS, now, wanted)


def writings(address, now, wanted):
    """The steps that write each longest run of words, from an address on, that are otherwise than wanted."""
    steps = []
    run = []
    for at, word in enumerate(wanted):
        if word != now[at]:
            run.append(word)
        elif run:
            steps.append(("write", address + at - len(run), run))
            run = []
    if run:
        steps.append(("write", address + len(wanted) - len(run), run))
    return steps


def size_of(step):
    """How many words a step erases or writes."""
    if step[0] == "erase":
        return PAGE_WORDS
    return len(step[2])


def do_part(probe, step, many):
    """Does a step for so many of its words, the first ones, alone."""
    if step[0] == "erase":
        erase_first(probe, step[1], many)
    else:
        write_words(probe, step[1], step[2][:many])


def erase_first(probe, page, many):
    """Erases so many words of a page, the first ones; the page is worn, be they none."""
    probe.standing.erased[page] += 1
    write_words(probe, page * PAGE_WORDS, [ERASED] * many)


def write_words(probe, address, words):
    """Lays words into flash."""
    for at, word in enumerate(words):
        probe.board.memory.words[address + at] = word
