"""The rules of the language, as far as a test can look for them, and the interface's files."""

import ast
import builtins
import os
import re
import unittest

from boardheld.board import Board

PACKAGE = os.path.join(os.path.dirname(os.path.dirname(os.path.abspath(__file__))), "boardheld")

LIBRARY = {
    "heapq": {"heappush", "heappop", "heapify", "heapreplace", "heappushpop"},
    "math": {"gcd", "lcm", "isqrt", "comb", "perm", "factorial"},
    "itertools": {"product", "combinations", "permutations", "chain", "accumulate", "pairwise", "islice",
                  "zip_longest"},
    "collections": {"defaultdict"},
    "__future__": {"annotations"},
}
BUILTINS = set("""len range enumerate zip min max sum abs sorted reversed int str bool bytes list tuple dict set
    frozenset isinstance ord repr any all divmod pow getattr hasattr setattr iter next map super property
    staticmethod classmethod object Exception ValueError TypeError KeyError IndexError LookupError
    ZeroDivisionError ArithmeticError OverflowError RuntimeError NotImplementedError AttributeError
    StopIteration NotImplemented""".split())
METHODS = set("""append clear copy count endswith extend find get index insert isalnum isalpha isdigit islower
    isspace isupper items join keys ljust lower lstrip partition pop remove replace reverse rfind rjust
    rpartition rsplit rstrip setdefault split splitlines startswith strip update upper values zfill bit_length
    title capitalize swapcase casefold center expandtabs removeprefix removesuffix rindex isascii isdecimal
    isnumeric istitle isidentifier isprintable translate maketrans encode decode hex from_bytes add discard
    sort format""".split())
BARRED_NAMES = set("""register mro elements open input law version_info with_traceback add_note breakpoint
    builtins compile copyright credits delattr dir eval exec exit gc globals help id importlib license locals
    os quit vars sys attrgetter methodcaller""".split())
BARRED_WORDS = r"\b(type|typing|typing_extensions|enum|Enum|IntEnum|StrEnum|Flag|IntFlag|Generic|Protocol|ABC" \
    r"|ABCMeta|namedtuple|NamedTuple|TypedDict|TYPE_CHECKING|abstractmethod)\b|dataclass|overload|contextmanager"

DUNDERS = set("""__init__ __eq__ __repr__ __str__ __len__ __enter__ __exit__ __call__ __iter__ __bool__
    __contains__ __getitem__ __setitem__ __lt__ __le__ __gt__ __ge__ __slots__ __class__ __name__""".split())
DECORATORS = {"property", "staticmethod", "classmethod"}
FUNCTIONS = (ast.FunctionDef, ast.AsyncFunctionDef)
AT_ONCE = ("zip", "enumerate", "reversed", "range", ".items", ".keys", ".values", "map")
TAKERS = ("list", "tuple", "dict", "sorted", "sum", "any", "all", "enumerate", "zip", "min", "max", "reversed")
UNCAUGHT = ("Exception", "TypeError", "ArithmeticError", "OverflowError", "RuntimeError", "NotImplementedError",
            "AttributeError")
CHANGERS = [f".{name}" for name in ("append", "clear", "extend", "insert", "pop", "remove", "reverse", "setdefault",
                                    "update", "sort", "add", "discard")]
BARRED_ATTRIBUTES = set("""items keys values pop update append clear extend insert remove reverse setdefault sort
    args encode decode hex fromhex format format_map mro conjugate real imag numerator denominator""".split())

INTERFACE = {
    "errors": {
        "BoardError": (), "NoImage": (), "NoText": ("at",), "NoWord": (), "Barred": ("why",), "Taken": (),
        "TooMany": (), "NoMark": (), "NoFrame": (), "Marked": ("address",), "Unerased": ("address",),
        "NoRow": (), "NoTurn": (), "NoLetter": (), "Waiting": (),
    },
    "listing": {"row_of": ("word",), "listed": ("image",), "typed": ("text",)},
    "memory": {"Memory": None, "Memory.word_at": ("address",)},
    "board": {"Board": ("image", "line"), "Board.turn": (), "Board.twin": ()},
    "probe": {
        "Probe": ("image", "line"), "Probe.look": ("address", "many"), "Probe.register_of": ("name",),
        "Probe.stop_told": (), "Probe.out": (), "Probe.turns": (), "Probe.poke": ("address", "word"),
        "Probe.set_register": ("name", "thing"), "Probe.go": ("most", "peeks"), "Probe.plain": (),
        "Probe.mark": ("address", "hard"), "Probe.unmark": ("address",), "Probe.clear_marks": (),
        "Probe.marks": (), "Probe.wear": (), "Probe.watch": ("number", "low", "high", "kind"),
        "Probe.unwatch": ("number",), "Probe.watches": (),
    },
    "steps": {
        "step_in": ("probe",), "step_over": ("probe", "most"), "step_out": ("probe", "most"),
        "frames_of": ("probe",), "strays_of": ("probe",), "forget_frames": ("probe",),
    },
    "traces": {
        "trace": ("probe",), "faded": ("probe",), "clear_trace": ("probe",), "profile": ("probe",),
        "spent": ("probe",), "idle": ("probe",), "peeked": ("probe",), "clear_counts": ("probe",),
    },
    "programming": {
        "erase": ("probe", "page"), "write": ("probe", "address", "words"), "plan": ("probe", "image"),
        "load": ("probe", "image"), "unlike_pages": ("probe", "image"),
        "load_cut": ("probe", "image", "at", "done"),
    },
    "faults": {
        "put_fault": ("probe", "fault"), "drop_faults": ("probe",), "waiting_faults": ("probe",),
        "met_faults": ("probe",), "keep": ("probe",), "go_back": ("probe", "number"), "kept_beats": ("probe",),
        "unlike_words": ("probe", "number"),
    },
    "logs": {
        "Desk": ("image", "line"), "Desk.say": ("row",), "Desk.log": (), "Desk.plain": (),
        "replayed": ("image", "line", "log"),
    },
    "parting": {"first_parting": ("image", "other", "line", "most")},
    "making": {"Program": ("text",), "Program.image": (), "Program.rows_at": (), "Program.vars_at": ()},
    "rowwise": {
        "Rowwise": ("program", "line"), "Rowwise.probe_of": (), "Rowwise.row_now": (), "Rowwise.worth": ("name",),
        "Rowwise.worths": (), "Rowwise.give": ("name", "word"), "Rowwise.into": ("most",), "Rowwise.over": ("most",),
        "Rowwise.out_of": ("most",), "Rowwise.to_row": ("number", "most"),
    },
    "link": {
        "letter_of": ("kind", "number", "text"), "opened": ("kind", "letter"), "Far": ("image", "line"),
        "Far.hear": ("letter",), "Far.desk": (), "Near": (), "Near.ask": ("row",), "Near.again": (),
        "Near.hear": ("letter",), "Near.told": (),
    },
}


def sources():
    """The texts of the package's files by their modules' names."""
    found = {}
    for name in sorted(os.listdir(PACKAGE)):
        if name.endswith(".py"):
            with open(os.path.join(PACKAGE, name), encoding="utf-8", newline="") as file:
                found[name[:-3]] = file.read()
    return found


def bound_names(tree):
    """Each name that stands in a file, with its line."""
    for node in ast.walk(tree):
        line = getattr(node, "lineno", 0)
        if isinstance(node, ast.Name):
            yield node.id, line
        elif isinstance(node, ast.Attribute):
            yield node.attr, line
        elif isinstance(node, (*FUNCTIONS, ast.ClassDef)):
            yield node.name, line
        elif isinstance(node, ast.arg):
            yield node.arg, line
        elif isinstance(node, ast.alias):
            yield node.asname or node.name, line


def given_names(tree):
    """Each name that a file gives to something, with its line."""
    for node in ast.walk(tree):
        if isinstance(node, ast.Name) and isinstance(node.ctx, ast.Store):
            yield node.id, node.lineno
        elif isinstance(node, ast.arg):
            yield node.arg, node.lineno
        elif isinstance(node, ast.ClassDef):
            yield node.name, node.lineno
    inside = [part for node in ast.walk(tree) if isinstance(node, ast.ClassDef) for part in node.body]
    for node in ast.walk(tree):
        if isinstance(node, FUNCTIONS) and node not in inside:
            yield node.name, node.lineno


def size_faults(text, tree):
    """L10: lines, files and functions that are too long; tabs."""
    lines = text.split("\n")
    faults = [("line", k) for k, line in enumerate(lines, 1) if len(line) > 120 or "\t" in line]
    if len(text.splitlines()) > 399:
        faults.append(("file", len(lines)))
    for node in ast.walk(tree):
        if isinstance(node, FUNCTIONS):
            first = min([node.lineno, *[part.lineno for part in node.decorator_list]])
            if node.end_lineno - first + 1 > 40:
                faults.append(("function", node.lineno))
    return faults


def sign_faults(text, tree):
    """L14, L27: signs in files and in strings."""
    faults = [("sign", sign) for sign in text if not (" " <= sign <= "~" or sign == "\n")]
    for node in ast.walk(tree):
        if isinstance(node, ast.Constant) and isinstance(node.value, str) and "%" in node.value:
            faults.append(("percent", node.lineno))
        if isinstance(node, ast.Constant) and isinstance(node.value, str) and node.value.endswith(("._", ".__")):
            faults.append(("end", node.lineno))
    return faults


def import_faults(tree):
    """L2, L16: what is imported, where and how."""
    faults = []
    top = True
    for node in tree.body:
        docstring = isinstance(node, ast.Expr) and isinstance(node.value, ast.Constant)
        top = top and (docstring or isinstance(node, (ast.Import, ast.ImportFrom)))
        if isinstance(node, ast.ImportFrom) and not top:
            faults.append(("late", node.lineno))
    known = sources()
    for node in ast.walk(tree):
        if isinstance(node, ast.Import):
            faults.append(("import", node.lineno))
        if isinstance(node, ast.ImportFrom):
            names = [alias.name for alias in node.names]
            whole = node.module or ""
            if node.level == 0 and whole in LIBRARY:
                faults += [(name, node.lineno) for name in names if name not in LIBRARY[whole]]
            elif node.level == 0 and whole.startswith("boardheld.") and whole[10:] in known:
                defined = top_names(ast.parse(known[whole[10:]]))
                faults += [(name, node.lineno) for name in names if name not in defined]
            else:
                faults.append((whole, node.lineno))
    return faults


def top_names(tree):
    """The names that a file defines itself, each as often as it does."""
    names = []
    for node in tree.body:
        if isinstance(node, (*FUNCTIONS, ast.ClassDef)):
            names.append(node.name)
        elif isinstance(node, ast.Assign):
            names += [target.id for target in node.targets if isinstance(target, ast.Name)]
    return names


def top_faults(tree):
    """L3, L15: what stands at module level."""
    faults = []
    for k, node in enumerate(tree.body):
        if isinstance(node, (ast.ImportFrom, ast.FunctionDef, ast.ClassDef)):
            continue
        if isinstance(node, ast.Expr) and k == 0 and isinstance(node.value, ast.Constant):
            continue
        plain = isinstance(node, ast.Assign) and len(node.targets) == 1 and isinstance(node.targets[0], ast.Name)
        if not plain or any(isinstance(part, ast.Call) for part in ast.walk(node)):
            faults.append(("statement", node.lineno))
    names = top_names(tree)
    for node in tree.body:
        if isinstance(node, ast.ImportFrom):
            names += [alias.asname or alias.name for alias in node.names]
    return faults + [("twice", name) for name in sorted(set(names)) if names.count(name) > 1]


def statement_faults(tree):
    """L4, L5, L6, L7: statements and expressions that are not used."""
    faults = []
    barred = (ast.Global, ast.AsyncFunctionDef, ast.AsyncFor, ast.AsyncWith, ast.Await, ast.Div, ast.MatMult)
    for node in ast.walk(tree):
        line = getattr(node, "lineno", 0)
        if isinstance(node, barred):
            faults.append((node.__class__.__name__, line))
        if isinstance(node, ast.Constant) and isinstance(node.value, (float, complex)):
            faults.append(("float", line))
        if isinstance(node, ast.ClassDef) and (node.decorator_list or node.keywords):
            faults.append(("class", line))
        if isinstance(node, ast.FunctionDef):
            for part in node.decorator_list:
                setter = isinstance(part, ast.Attribute) and part.attr == "setter"
                if not setter and getattr(part, "id", "") not in DECORATORS:
                    faults.append(("decorator", line))
        if isinstance(node, ast.ExceptHandler) and node.type is None:
            faults.append(("except", line))
    return faults


def name_faults(tree):
    """L8, L12, L15, L17: names."""
    faults = []
    for name, line in bound_names(tree):
        if not re.fullmatch(r"_|_?[A-Za-z][A-Za-z0-9_]*", name) and name not in DUNDERS:
            faults.append((name, line))
        if name in BARRED_NAMES:
            faults.append((name, line))
    for name, line in given_names(tree):
        if name in vars(builtins) and name not in DUNDERS:
            faults.append((name, line))
    for node in ast.walk(tree):
        if isinstance(node, ast.Name) and node.id in vars(builtins) and node.id not in BUILTINS:
            faults.append((node.id, node.lineno))
    return faults


def word_faults(text):
    """L12, L17: words that don't occur outside of comments and docstrings."""
    tree = ast.parse(text)
    for node in ast.walk(tree):
        if isinstance(node, (ast.Module, ast.ClassDef, *FUNCTIONS)) and ast.get_docstring(node) is not None:
            node.body = node.body[1:] or [ast.Pass()]
    bare = ast.unparse(tree)
    return re.findall(BARRED_WORDS, bare) + re.findall(r"_wall\b|_WallAttr", text)


def method_faults(tree, own):
    """L25: methods that are called are the package's own, or those listed."""
    faults = []
    for node in ast.walk(tree):
        if isinstance(node, ast.Call) and isinstance(node.func, ast.Attribute):
            if node.func.attr not in METHODS and node.func.attr not in own:
                faults.append((node.func.attr, node.lineno))
    return faults


def parents_of(tree):
    """What each node of a file stands in."""
    return {id(part): node for node in ast.walk(tree) for part in ast.iter_child_nodes(node)}


def called_name(node):
    """The name of what a call calls, a method's behind a dot; None for what is no call."""
    if not isinstance(node, ast.Call):
        return None
    if isinstance(node.func, ast.Attribute):
        return "." + node.func.attr
    return getattr(node.func, "id", "")


def kept_faults(tree):
    """L23, L24: what is iterated over at once, and sets; stored sets are not looked for."""
    faults = []
    parents = parents_of(tree)
    for node in ast.walk(tree):
        over = parents.get(id(node))
        name = called_name(node)
        looped = isinstance(over, (ast.For, ast.comprehension)) and over.iter is node
        if name in AT_ONCE and not looped and called_name(over) not in TAKERS:
            if name != "range" or not isinstance(over, ast.Compare):
                faults.append((name, node.lineno))
        if isinstance(node, (ast.Set, ast.SetComp)) or name in ("set", "frozenset"):
            if called_name(over) not in ("sorted", "len") and not isinstance(over, ast.Compare):
                faults.append(("set", node.lineno))
            if looped:
                faults.append(("set", node.lineno))
    return faults


def form_faults(tree):
    """L6, L7, L15, L19, L20, L21: forms of single statements and expressions."""
    faults = []
    for node in ast.walk(tree):
        line = getattr(node, "lineno", 0)
        if isinstance(node, ast.Compare):
            for sign, part in zip(node.ops, node.comparators):
                plain = isinstance(part, ast.Constant) and part.value in (None, True, False)
                if isinstance(sign, (ast.Is, ast.IsNot)) and not plain:
                    faults.append(("is", line))
        if isinstance(node, ast.Raise) and node.exc is not None:
            if not isinstance(node.exc, ast.Call) or not called_name(node.exc)[:1].isupper():
                faults.append(("raise", line))
        if isinstance(node, ast.ExceptHandler) and getattr(node.type, "id", "") in UNCAUGHT:
            faults.append(("except", line))
        if isinstance(node, ast.AnnAssign) or isinstance(node, FUNCTIONS) and node.returns is not None:
            faults.append(("annotation", line))
        if isinstance(node, ast.GeneratorExp):
            faults.append(("generator", line))
    for node in tree.body:
        inside = [part for part in ast.walk(node) if isinstance(part, (ast.List, ast.Dict, ast.Set))]
        if isinstance(node, ast.Assign) and len(inside) > 1:
            faults.append(("nested", node.lineno))
    return faults


def shadow_faults(tree):
    """L15: names of a file's classes and imports that its functions give to something else."""
    classes = [node.name for node in tree.body if isinstance(node, ast.ClassDef)]
    imports = [part.asname or part.name for node in tree.body if isinstance(node,
        ast.ImportFrom) for part in node.names]
    top = {id(node) for node in tree.body}
    faults = []
    for name, line in given_names(tree):
        if name in imports:
            faults.append((name, line))
    for node in ast.walk(tree):
        stored = isinstance(node, ast.Name) and isinstance(node.ctx, ast.Store) and node.id in classes
        if stored or isinstance(node, ast.arg) and node.arg in classes:
            faults.append((node, node.lineno))
        if isinstance(node, FUNCTIONS) and id(node) not in top and node.name in imports:
            faults.append((node.name, node.lineno))
    return faults


def table_faults(tree):
    """L15: tables at module level, imported ones too, that a function changes."""
    names = [name for name in top_names(tree) if name.isupper()]
    names += [part.name for node in tree.body if isinstance(node, ast.ImportFrom) for part in node.names]
    faults = []
    for node in ast.walk(tree):
        changed = isinstance(node, (ast.Subscript, ast.Attribute)) and not isinstance(node.ctx, ast.Load)
        if changed and getattr(node.value, "id", "") in names:
            faults.append((node.value.id, node.lineno))
        if called_name(node) in CHANGERS and getattr(node.func.value, "id", "") in names:
            faults.append((node.func.value.id, node.lineno))
    return faults


def attributes_of(trees):
    """All attributes that some class assigns to its own object, by the classes' names."""
    found = {}
    for tree in trees:
        for kind in [node for node in tree.body if isinstance(node, ast.ClassDef)]:
            found[kind.name] = set()
            for node in ast.walk(kind):
                if isinstance(node, ast.Attribute) and isinstance(node.ctx, ast.Store):
                    if getattr(node.value, "id", "") == "self":
                        found[kind.name].add(node.attr)
    return found


def own_methods():
    """The names of all methods of the package's classes."""
    names = {"__init__"}
    for text in sources().values():
        for node in ast.walk(ast.parse(text)):
            if isinstance(node, ast.ClassDef):
                names |= {part.name for part in node.body if isinstance(part, FUNCTIONS)}
    return names


def faults_of(text):
    """All that these functions find wrong in a file's text."""
    tree = ast.parse(text)
    return [
        *size_faults(text, tree), *sign_faults(text, tree), *import_faults(tree), *top_faults(tree),
        *statement_faults(tree), *name_faults(tree), *word_faults(text), *method_faults(tree, own_methods()),
        *kept_faults(tree), *form_faults(tree), *shadow_faults(tree), *table_faults(tree),
    ]


class Language(unittest.TestCase):
    def test_folder_holds_nothing_but_its_files(self):
        names = [name for name in os.listdir(PACKAGE) if name != "__pycache__"]
        self.assertIn("__init__.py", names)
        self.assertLessEqual(len(names), 100)
        for name in names:
            self.assertRegex(name, r"^(__init__|__main__|[a-z][a-z0-9_]*)\.py$")
            self.assertTrue(os.path.isfile(os.path.join(PACKAGE, name)), name)
            self.assertNotIn(name[:-3], [*vars(builtins), *LIBRARY, *BARRED_NAMES, "type", "site", "test", "tests"])

    def test_each_file(self):
        for module, text in sources().items():
            with self.subTest(module=module):
                self.assertEqual(faults_of(text), [])

    def test_no_circle_of_imports(self):
        asked = {}
        for module, text in sources().items():
            found = [node for node in ast.walk(ast.parse(text)) if isinstance(node, ast.ImportFrom)]
            asked[module] = {node.module[10:] for node in found if (node.module or "").startswith("boardheld.")}
        while asked:
            free = [module for module in asked if not asked[module] & set(asked)]
            self.assertNotEqual(free, [], f"a circle among {sorted(asked)}")
            for module in free:
                del asked[module]

    def test_attributes_and_methods(self):
        trees = [ast.parse(text) for text in sources().values()]
        attributes = attributes_of(trees)
        every = set().union(*attributes.values())
        self.assertEqual(every & (BARRED_ATTRIBUTES | METHODS | BARRED_NAMES), set())
        methods = set()
        for tree in trees:
            for kind in [node for node in tree.body if isinstance(node, ast.ClassDef)]:
                names = [part.name for part in kind.body if isinstance(part, FUNCTIONS)]
                self.assertEqual(len(names), len(set(names)), kind.name)
                self.assertEqual(set(names) & attributes[kind.name], set(), kind.name)
                methods |= set(names)
        self.assertEqual(methods & every, set())
        for tree in trees:
            for node in ast.walk(tree):
                if isinstance(node, ast.Attribute) and isinstance(node.ctx, ast.Load):
                    self.assertIn(node.attr, every | methods | METHODS)

    def test_wrong_texts_are_found(self):
        wrong = (
            "import os\n", "from boardheld.errors import *\n", "from boardheld.errors import Nothing\n",
            "from json import loads\n", "from .errors import NoText\n", "x = 1\nx = 2\n", "x, y = 1, 2\n",
            "x = len('a')\n", "print(1)\n", "def f(a):\n    return a / 2\n", "def f():\n    return 0.5\n",
            "def f():\n    global x\n", "async def f():\n    return 1\n", "def f():\n    return '%'\n",
            "def f(len):\n    return 1\n", "def f():\n    return open('a')\n", "def f(a):\n    return a.isoformat()\n",
            "def f(a):\n    return chr(a)\n", "def f():\n    __a = 1\n", "def f():\n\treturn 1\n",
            "# " + "a" * 120 + "\n", "#\n" * 400, "def f():\n" + "    pass\n" * 40, "# \u00e4\n",
            "def f():\n    return 'a namedtuple'\n", "@f\nclass A:\n    pass\n", "@f\ndef g():\n    pass\n",
            "def f():\n    try:\n        pass\n    except:\n        pass\n", "# _wall\n",
            "def f(a):\n    b = zip(a, a)\n    return list(b)\n", "def f(a):\n    return a.items()\n",
            "def f(a):\n    return set(a)\n", "def f(a):\n    for k in {1, 2}:\n        a = k\n",
            "def f(a, b):\n    return a is b\n", "def f(a):\n    raise a\n", "def f(a):\n    raise a.b()\n",
            "def f(a):\n    try:\n        a = 1\n    except TypeError:\n        a = 2\n", "A = [[1], [2]]\n",
            "class A:\n    pass\n\n\ndef f(A):\n    return A\n", "A = [1]\n\n\ndef f():\n    A.append(2)\n",
            "from boardheld.errors import NoText\n\n\ndef f(NoText):\n    return 1\n",
            "A = {1: 2}\n\n\ndef f():\n    A[1] = 3\n", "def f() -> None:\n    return None\n",
            "from boardheld.deeds import DOINGS\n\n\ndef f():\n    del DOINGS[1]\n",
        )
        for text in wrong:
            with self.subTest(text=text[:60]):
                self.assertNotEqual(faults_of(text), [])

    def test_right_texts_are_left(self):
        right = (
            "#\n" * 399, "# " + "a" * 118 + "\n", "def f():\n" + "    pass\n" * 39,
            '"""A type."""\n\nfrom boardheld.errors import NoText\n\nA = (1, "b")\n\n\ndef f(a):\n    raise NoText(a)\n',
        )
        for text in right:
            with self.subTest(text=text[:60]):
                self.assertEqual(faults_of(text), [])


class Interface(unittest.TestCase):
    def arguments_of(self, node):
        names = [part.arg for part in node.args.args]
        return tuple(names[1:] if names[:1] == ["self"] else names)

    def defined(self, module):
        """What a file defines: each class's __init__ by the class's name, its methods behind a dot."""
        told = {}
        for node in ast.parse(sources()[module]).body:
            if isinstance(node, ast.FunctionDef):
                told[node.name] = self.arguments_of(node)
            if isinstance(node, ast.ClassDef):
                told[node.name] = ()
                for part in [part for part in node.body if isinstance(part, ast.FunctionDef)]:
                    name = node.name if part.name == "__init__" else f"{node.name}.{part.name}"
                    told[name] = self.arguments_of(part)
        return told

    def test_each_name_stands_in_its_own_file(self):
        for module, names in INTERFACE.items():
            told = self.defined(module)
            for name, arguments in names.items():
                self.assertIn(name, told, module)
                if arguments is not None:
                    self.assertEqual(told[name], arguments, name)

    def test_only_peeks_may_be_left_out(self):
        for module in INTERFACE:
            for node in ast.walk(ast.parse(sources()[module])):
                if isinstance(node, FUNCTIONS):
                    defaults = [part.value for part in node.args.defaults]
                    self.assertEqual(defaults, [None] if node.name == "go" else [], node.name)

    def test_fields_are_set_when_an_object_is_created(self):
        fields = {"registers", "zero", "lets", "asleep", "beat", "stopped", "sent", "memory"}
        self.assertLessEqual(fields, set(vars(Board([], []))))
        self.assertLessEqual(fields, set(vars(Board([], []).twin())))


if __name__ == "__main__":
    unittest.main()
