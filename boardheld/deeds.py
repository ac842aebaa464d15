"""What each deed reads and puts, and what it does.

A deed is done by a function that is handed the board, x and the words that it reads. Ahead of it pc
becomes the address behind the deed, so that only what leads elsewhere changes pc again.
"""

WORDS = 65536
HIGH = 32768

READS_AT_X = ("get", "add", "sub", "and", "xor")


def touches_of(name, x, registers):
    """The words that a deed reads ("r") and puts ("w"), in order: tuples of this sign and the address."""
    if name in READS_AT_X:
        return [("r", x)]
    if name == "put":
        return [("w", x)]
    if name == "getb":
        return [("r", x + registers["b"])]
    if name == "putb":
        return [("w", x + registers["b"])]
    if name in ("call", "push"):
        return [("w", registers["sp"])]
    if name in ("ret", "pop"):
        return [("r", registers["sp"] + 1)]
    if name == "back":
        return [("r", registers["sp"] + 1), ("r", registers["sp"] + 2)]
    return []


def give(board, word):
    """Gives a a word."""
    board.registers["a"] = word
    board.zero = word == 0


def do_lit(board, x, words):
    give(board, x)


def do_get(board, x, words):
    give(board, words[0])


def do_put(board, x, words):
    board.put_by_turn(x, board.registers["a"])


def do_add(board, x, words):
    give(board, (board.registers["a"] + words[0]) % WORDS)


def do_sub(board, x, words):
    give(board, (board.registers["a"] - words[0]) % WORDS)


def do_and(board, x, words):
    give(board, board.registers["a"] & words[0])


def do_xor(board, x, words):
    give(board, board.registers["a"] ^ words[0])


def do_putb(board, x, words):
    board.put_by_turn(x + board.registers["b"], board.registers["a"])


def do_tob(board, x, words):
    board.registers["b"] = board.registers["a"]


def do_swap(board, x, words):
    a = board.registers["a"]
    give(board, board.registers["b"])
    board.registers["b"] = a


def do_go(board, x, words):
    board.registers["pc"] = x


def do_ifz(board, x, words):
    if board.zero:
        board.registers["pc"] = x


def do_ifn(board, x, words):
    if board.registers["a"] >= HIGH:
        board.registers["pc"] = x


def do_call(board, x, words):
    board.put_by_turn(board.registers["sp"], board.registers["pc"])
    board.registers["sp"] -= 1
    board.registers["pc"] = x


def do_ret(board, x, words):
    board.registers["sp"] += 1
    board.registers["pc"] = words[0]


def do_push(board, x, words):
    board.put_by_turn(board.registers["sp"], board.registers["a"])
    board.registers["sp"] -= 1


def do_pop(board, x, words):
    board.registers["sp"] += 1
    give(board, words[0])


def do_sleep(board, x, words):
    board.asleep = True


def do_let(board, x, words):
    board.lets = x % 2 == 1


def do_back(board, x, words):
    board.registers["sp"] += 2
    board.zero = words[0] % 2 == 1
    board.registers["pc"] = words[1]
    board.lets = True


def do_half(board, x, words):
    give(board, board.registers["a"] // 2)


DOINGS = {
    "lit": do_lit, "get": do_get, "put": do_put, "add": do_add, "sub": do_sub, "and": do_and, "xor": do_xor,
    "getb": do_get, "putb": do_putb, "tob": do_tob, "swap": do_swap, "go": do_go, "ifz": do_ifz, "ifn": do_ifn,
    "call": do_call, "ret": do_ret, "push": do_push, "pop": do_pop, "sleep": do_sleep, "let": do_let,
    "back": do_back, "half": do_half,
}
