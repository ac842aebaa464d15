"""The table of ops: a word is its op's number times X_SPAN, and x."""

X_SPAN = 1024

# An op's number is its place here.
OP_NAMES = (
    "mark", "lit", "get", "put", "add", "sub", "and", "xor", "getb", "putb", "tob", "swap",
    "go", "ifz", "ifn", "call", "ret", "push", "pop", "sleep", "let", "back", "half",
)

OPS_WITH_X = (
    "lit", "get", "put", "add", "sub", "and", "xor", "getb", "putb", "go", "ifz", "ifn", "call", "let",
)
