"""The package's files keep to the small part of Python that the program is written in.

Not every rule can be seen by a walk over the files; those that can plainly be are asked here.
"""

import ast
import builtins
import pathlib
import re
import unittest

PACKAGE = pathlib.Path(__file__).resolve().parent.parent / "pageties"

STATEMENTS = """Module FunctionDef ClassDef Return Assign AugAssign AnnAssign For While If Raise Try
ExceptHandler ImportFrom Expr Pass Break Continue""".split()

EXPRESSIONS = """BoolOp And Or BinOp Add Sub Mult FloorDiv Mod Pow LShift RShift BitOr BitXor BitAnd
UnaryOp Invert Not UAdd USub Lambda IfExp Dict Set List Tuple ListComp comprehension Compare Eq NotEq
Lt LtE Gt GtE Is IsNot In NotIn Call keyword Attribute Subscript Slice Name Load Store Constant
JoinedStr FormattedValue arguments arg alias""".split()

OWN_OF_PYTHON = """len range enumerate zip min max sum abs sorted reversed int str bool list tuple dict
set frozenset isinstance ord repr any all divmod Exception ValueError TypeError KeyError IndexError
LookupError ZeroDivisionError ArithmeticError OverflowError RuntimeError NotImplementedError
AttributeError StopIteration""".split()

METHODS = """append clear copy count endswith extend find get index insert isalnum isalpha isdigit
islower isspace isupper items join keys ljust lower lstrip partition pop remove replace reverse rfind
rjust rpartition rsplit rstrip setdefault split splitlines startswith strip update upper values zfill
bit_length""".split()

DOUBLE_METHODS = "__init__ __eq__ __repr__ __str__ __len__".split()

BANNED_NAMES = """register mro elements open input version_info with_traceback add_note format
format_map attrgetter breakpoint builtins compile copyright credits delattr dir eval exec exit gc
getattr globals hasattr help id importlib license locals methodcaller os quit setattr super vars
sys chr""".split()

BANNED_WORDS = """type typing typing_extensions enum Enum IntEnum StrEnum Flag IntFlag Generic
Protocol ABC ABCMeta namedtuple NamedTuple TypedDict TYPE_CHECKING abstractmethod""".split()

BANNED_PARTS = "dataclass overload contextmanager".split()

WALKED_AT_ONCE = "zip enumerate reversed range items keys values".split()

WALKERS = "list tuple dict sorted sum any all enumerate zip".split()

KEYWORDS = {
    "sorted": ["key", "reverse"], "min": ["key", "default"], "max": ["key", "default"],
    "sum": ["start"], "enumerate": ["start"], "zip": ["strict"],
}


def faults_of_text(text):
    rows = text.split("\n")
    if len(rows) > 401:
        yield "L10"
    if any(len(row) > 120 for row in rows):
        yield "L10"
    if re.search(r"[^ -~\n]", text):
        yield "L14"
    words = set(re.findall(r"\w+", text))
    if words & set(BANNED_WORDS) or any(part in text for part in BANNED_PARTS):
        yield "L17"


def faults_of_top(tree):
    imports_are_over = False
    bound = []
    for number, node in enumerate(tree.body):
        is_docstring = number == 0 and ast.get_docstring(tree) is not None
        if isinstance(node, ast.ImportFrom):
            if imports_are_over:
                yield "L2"
            continue
        if not is_docstring:
            imports_are_over = True
        if isinstance(node, (ast.FunctionDef, ast.ClassDef)):
            bound.append(node.name)
        elif isinstance(node, ast.Assign) and isinstance(node.targets[0], ast.Name):
            bound.append(node.targets[0].id)
        elif not is_docstring:
            yield "L3"
    if len(bound) != len(set(bound)):
        yield "L15"
    for node in ast.walk(tree):
        if isinstance(node, ast.ImportFrom) and node not in tree.body:
            yield "L2"


def faults_of_def(node):
    if node.decorator_list:
        yield "L4"
    if node.end_lineno - node.lineno + 1 > 40:
        yield "L10"
    given = node.args
    if given.vararg or given.kwarg or given.kwonlyargs or given.posonlyargs:
        yield "L4"


def faults_of_class(node):
    if node.decorator_list or node.keywords or len(node.bases) > 1:
        yield "L5"
    for part in node.body:
        is_docstring = isinstance(part, ast.Expr) and isinstance(part.value, ast.Constant)
        if not (isinstance(part, (ast.FunctionDef, ast.Pass)) or is_docstring):
            yield "L5"


def faults_of_import(node):
    name = node.module or ""
    future = name == "__future__" and [part.name for part in node.names] == ["annotations"]
    if node.level or not (name.startswith("pageties.") or future):
        yield "L2"
    if any(part.name == "*" or part.asname for part in node.names):
        yield "L2"


def faults_of_name(name):
    if name in BANNED_NAMES:
        yield "L17"
    if not name.isascii() or name.startswith("_") and name not in DOUBLE_METHODS:
        yield "L12"


def faults_of_comparison(node):
    sides = [node.left] + node.comparators
    for place, sign in enumerate(node.ops):
        if isinstance(sign, (ast.Is, ast.IsNot)):
            beside = [side.value for side in sides[place:place + 2] if isinstance(side, ast.Constant)]
            if not any(value is None or value is True or value is False for value in beside):
                yield "L20"


def faults_of_constant(node):
    if isinstance(node.value, (float, complex, bytes)) or node.value is ...:
        yield "L7"
    if isinstance(node.value, str) and "%" in node.value:
        yield "L27"


def names_bound_here(node):
    if isinstance(node, ast.Name) and isinstance(node.ctx, ast.Store):
        return [node.id]
    if isinstance(node, ast.arg):
        return [node.arg]
    if isinstance(node, (ast.FunctionDef, ast.ClassDef)):
        return [node.name]
    return []


def faults_of_node(node, own_methods):
    kind = type(node).__name__
    if kind not in STATEMENTS + EXPRESSIONS:
        yield "L2" if kind == "Import" else "L6/L7 " + kind
    for name in names_bound_here(node):
        yield from faults_of_name(name)
        if hasattr(builtins, name):
            yield "L15"
    if isinstance(node, ast.Name) and isinstance(node.ctx, ast.Load):
        yield from faults_of_name(node.id)
        if hasattr(builtins, node.id) and node.id not in OWN_OF_PYTHON:
            yield "L8"
    if isinstance(node, ast.Attribute):
        yield from faults_of_name(node.attr)
    if isinstance(node, ast.Call) and isinstance(node.func, ast.Attribute):
        if node.func.attr not in METHODS + own_methods:
            yield "L25"
    if isinstance(node, ast.Expr) and not isinstance(node.value, (ast.Call, ast.Constant)):
        yield "L6"
    if isinstance(node, (ast.For, ast.While)) and node.orelse:
        yield "L6"
    if isinstance(node, ast.Try) and node.finalbody:
        yield "L6"
    if isinstance(node, ast.Assign) and len(node.targets) != 1:
        yield "L6"
    if isinstance(node, ast.ListComp) and (len(node.generators) > 1 or len(node.generators[0].ifs) > 1):
        yield "L7"
    for sort, faults_of in (
        (ast.FunctionDef, faults_of_def),
        (ast.ClassDef, faults_of_class),
        (ast.ImportFrom, faults_of_import),
        (ast.Compare, faults_of_comparison),
        (ast.Constant, faults_of_constant),
    ):
        if isinstance(node, sort):
            yield from faults_of(node)


def called_name(node):
    if isinstance(node, ast.Call) and isinstance(node.func, ast.Name):
        return node.func.id
    if isinstance(node, ast.Call) and isinstance(node.func, ast.Attribute):
        return node.func.attr
    return ""


def is_walked_on_the_spot(node, above):
    if isinstance(above, (ast.For, ast.comprehension)):
        return above.iter is node
    name = called_name(above)
    if name in ("min", "max"):
        return len(above.args) == 1
    if name == "join":
        return isinstance(above.func.value, ast.Constant)
    return name in WALKERS and (above.args[0] is node or name == "zip")


def is_set_asked_on_the_spot(above):
    if isinstance(above, ast.Compare):
        return all(isinstance(sign, (ast.In, ast.NotIn, ast.Eq, ast.NotEq)) for sign in above.ops)
    if isinstance(above, ast.BinOp):
        return True
    return called_name(above) in ("sorted", "len") and not above.keywords


def faults_of_place(node, above):
    name = called_name(node)
    if name in WALKED_AT_ONCE and not is_walked_on_the_spot(node, above):
        yield "L23"
    if (name in ("set", "frozenset") or isinstance(node, ast.Set)) and not is_set_asked_on_the_spot(above):
        yield "L24"
    if isinstance(node, ast.Call) and hasattr(builtins, name):
        if any(word.arg not in KEYWORDS.get(name, []) for word in node.keywords):
            yield "L22"


def faults_of_places(tree):
    for above in ast.walk(tree):
        for node in ast.iter_child_nodes(above):
            for fault in faults_of_place(node, above):
                yield fault + " in row " + str(getattr(node, "lineno", 0))


def faults(text):
    tree = ast.parse(text)
    found = list(faults_of_text(text)) + list(faults_of_top(tree)) + list(faults_of_places(tree))
    own_methods = [
        part.name
        for node in ast.walk(tree)
        if isinstance(node, ast.ClassDef)
        for part in node.body
        if isinstance(part, ast.FunctionDef)
    ]
    for node in ast.walk(tree):
        row = getattr(node, "lineno", 0)
        found += [fault + " in row " + str(row) for fault in faults_of_node(node, own_methods)]
    return found


def package_files():
    return sorted(path for path in PACKAGE.rglob("*") if "__pycache__" not in path.parts)


def drawn_from(path):
    tree = ast.parse(path.read_text(encoding="utf-8"))
    return [node.module.split(".")[1] for node in tree.body
            if isinstance(node, ast.ImportFrom) and node.module.startswith("pageties.")]


class Package(unittest.TestCase):
    def test_files_have_plain_names(self):
        self.assertIn(PACKAGE / "__init__.py", package_files())
        for path in package_files():
            with self.subTest(path=path):
                self.assertTrue(path.is_file())
                self.assertRegex(path.name, r"\A(__init__|[a-z][a-z0-9_]*)\.py\Z")
                self.assertFalse(path.stem.startswith("test"))
                self.assertTrue(path.stem == "__init__" or not hasattr(builtins, path.stem))

    def test_each_file_keeps_to_the_rules(self):
        for path in package_files():
            with self.subTest(path=path):
                self.assertEqual(faults(path.read_bytes().decode("utf-8")), [])

    def test_no_two_files_draw_from_one_another(self):
        left = {path.stem: drawn_from(path) for path in package_files()}
        self.assertEqual(left.pop("__init__"), [])
        while left:
            free = [name for name in left if not any(other in left for other in left[name])]
            self.assertNotEqual(free, [], left)
            for name in free:
                left.pop(name)


class Walk(unittest.TestCase):
    """The walk itself would notice what it is there for."""

    def test_code_within_the_rules(self):
        self.assertEqual(faults(
            '"""Words."""\n\nfrom pageties.errors import NoText\n\nMOST = 3\n\n\n'
            "def some(things):\n    kept = {}\n    for k, thing in enumerate(things):\n"
            "        kept[k] = thing if thing is not None else MOST\n"
            "    if not kept:\n        raise NoText(f\"none of {things!r}\")\n"
            "    return [kept[k] for k in kept if k % 2 == 0]\n\n\n"
            "def other(things):\n    if 3 in set(things):\n        return len(set(things))\n"
            "    return sorted(range(len(things)), key=lambda k: things[k])\n"
        ), [])

    def test_code_outside_the_rules(self):
        for rule, text in (
            ("L2", "import sys\n"),
            ("L2", "from pageties.errors import *\n"),
            ("L2", "from .errors import NoText\n"),
            ("L2", "from random import choice\n"),
            ("L2", "MOST = 3\nfrom pageties.errors import NoText\n"),
            ("L2", "def some(x):\n    from pageties.webs import is_web\n    return is_web(x)\n"),
            ("L3", "if True:\n    MOST = 3\n"),
            ("L4", "def some(*things):\n    return things\n"),
            ("L4", "def some(one, *, other):\n    return other\n"),
            ("L5", "class Some:\n    value = 3\n"),
            ("L6", "def some(xs):\n    del xs[0]\n"),
            ("L6", "def some(xs):\n    assert xs\n"),
            ("L6", "def some(xs):\n    one = other = xs\n    return one\n"),
            ("L6", "def some(xs):\n    for x in xs:\n        pass\n    else:\n        return 1\n"),
            ("L7", "def some(x):\n    return x / 2\n"),
            ("L7", "def some(x):\n    return x * 0.5\n"),
            ("L7", "def some(xs):\n    return all(x for x in xs)\n"),
            ("L7", "def some(xs):\n    return [x for ys in xs for x in ys]\n"),
            ("L7", "def some(xs):\n    return {x: x for x in xs}\n"),
            ("L8", "def some(xs):\n    return map(len, xs)\n"),
            ("L10", "MOST = 3  # " + "x" * 120 + "\n"),
            ("L10", "def some(x):\n" + "    x = x + 1\n" * 40),
            ("L12", "def some(_x):\n    return 1\n"),
            ("L14", "MOST = 3\t\n"),
            ("L14", "MOST = 3  # \u00e9\n"),
            ("L15", "MOST = 3\nMOST = 4\n"),
            ("L15", "def some(hash):\n    return hash\n"),
            ("L17", "def some(x):\n    return type(x)\n"),
            ("L17", "MOST = 3  # of this type\n"),
            ("L20", "def some(x, y):\n    return x is y\n"),
            ("L22", "def some(x):\n    return int(x, base=3)\n"),
            ("L23", "def some(x):\n    y = range(x)\n    return [z for z in y]\n"),
            ("L23", "def some(x):\n    return len(x.values())\n"),
            ("L23", "def some(x):\n    return other(enumerate(x))\n"),
            ("L24", "def some(x):\n    y = set(x)\n    return len(y)\n"),
            ("L24", "def some(x):\n    return [y for y in set(x)]\n"),
            ("L25", "def some(x):\n    return x.title()\n"),
            ("L27", "WORDS = '50%'\n"),
        ):
            with self.subTest(text=text):
                found = faults(text)
                rules = [rule for fault in found for rule in fault.split(" ")[0].split("/")]
                self.assertIn(rule, rules, found)


if __name__ == "__main__":
    unittest.main()
