"""The part of Python that the package keeps to, as far as its files show it at a look."""

import ast
import builtins
import pathlib
import re
import unittest

PACKAGE = pathlib.Path(__file__).resolve().parent.parent / "stonelay"

NODES = (
    ast.Module, ast.FunctionDef, ast.ClassDef, ast.arguments, ast.arg, ast.Lambda,
    ast.ImportFrom, ast.alias, ast.Assign, ast.AugAssign, ast.If, ast.While, ast.For, ast.Return,
    ast.Break, ast.Continue, ast.Pass, ast.Raise, ast.Try, ast.ExceptHandler, ast.Expr,
    ast.Constant, ast.List, ast.Tuple, ast.Dict, ast.Name, ast.Load, ast.Store, ast.Attribute,
    ast.Subscript, ast.Slice, ast.Call, ast.keyword, ast.IfExp, ast.Compare, ast.BoolOp, ast.BinOp,
    ast.UnaryOp, ast.ListComp, ast.comprehension, ast.JoinedStr, ast.FormattedValue,
    ast.boolop, ast.unaryop, ast.cmpop,
    ast.Add, ast.Sub, ast.Mult, ast.FloorDiv, ast.Mod, ast.Pow,
    ast.BitAnd, ast.BitOr, ast.BitXor, ast.LShift, ast.RShift,
)
OWN_NAMES = set(
    "len range enumerate zip min max sum abs sorted reversed int str bool list tuple dict set frozenset "
    "isinstance ord repr any all divmod ValueError KeyError IndexError LookupError ZeroDivisionError "
    "StopIteration Exception".split()
)
METHODS = set(
    "append clear copy count endswith extend find get index insert isalnum isalpha isdigit islower isspace "
    "isupper items join keys ljust lower lstrip partition pop remove replace reverse rfind rjust rpartition "
    "rsplit rstrip setdefault split splitlines startswith strip update upper values zfill bit_length".split()
)
WORDS = re.compile(
    r"\b(type|typing|typing_extensions|enum|Enum|IntEnum|StrEnum|Flag|IntFlag|Generic|Protocol|ABC|ABCMeta|"
    r"namedtuple|NamedTuple|TypedDict|TYPE_CHECKING|abstractmethod)\b|dataclass|overload|contextmanager"
)
PLAIN = re.compile(r"[A-Za-z][A-Za-z0-9_]*|__(init|eq|repr|str|len)__")


def text_faults(text):
    faults = []
    rows = text.split("\n")
    if len(rows) > 401:
        faults.append("L10 file too long")
    for place, row in enumerate(rows, start=1):
        if len(row) > 120:
            faults.append(f"L10 line {place} too long")
        if not all(" " <= sign <= "~" for sign in row):
            faults.append(f"L14 line {place} has a sign from outside")
        if WORDS.search(row):
            faults.append(f"L17 line {place} has a word that is not used")
    return faults


def bound_names(tree):
    names = set()
    for node in ast.walk(tree):
        if isinstance(node, (ast.FunctionDef, ast.ClassDef)):
            names.add(node.name)
        elif isinstance(node, ast.arg):
            names.add(node.arg)
        elif isinstance(node, ast.Name) and isinstance(node.ctx, ast.Store):
            names.add(node.id)
        elif isinstance(node, ast.alias):
            names.add(node.asname or node.name)
        elif isinstance(node, ast.ExceptHandler) and node.name:
            names.add(node.name)
    return names


def local_faults(tree):
    """Parameters and locals that are called like a class or an import of the file, or like a name of Python's own."""
    taken = set(dir(builtins))
    for node in tree.body:
        if isinstance(node, ast.ClassDef):
            taken.add(node.name)
        elif isinstance(node, ast.ImportFrom):
            taken.update(alias.asname or alias.name for alias in node.names)
    names = {node.arg for node in ast.walk(tree) if isinstance(node, ast.arg)}
    names.update(node.id for node in ast.walk(tree) if isinstance(node, ast.Name) and isinstance(node.ctx, ast.Store))
    return [f"L15 the name {name}" for name in sorted(names & taken)]


def node_fault(node):
    if not isinstance(node, NODES):
        return "L6, L7 a form from outside"
    if isinstance(node, ast.FunctionDef):
        if node.end_lineno - node.lineno + 1 > 40:
            return "L10 function too long"
        if node.decorator_list or node.returns:
            return "L4, L21 a decorator or an annotation"
    if isinstance(node, ast.arg) and node.annotation:
        return "L21 an annotation"
    if isinstance(node, ast.arguments) and (node.vararg or node.kwarg or node.kwonlyargs or node.posonlyargs):
        return "L4 parameters that are not plain"
    if isinstance(node, ast.ImportFrom):
        if node.level or not node.module.startswith("stonelay.") or node.names[0].name == "*":
            return "L2 an import from outside"
    if isinstance(node, ast.Assign) and len(node.targets) != 1:
        return "L6 several targets"
    if isinstance(node, (ast.For, ast.While)) and node.orelse:
        return "L6 else behind a loop"
    if isinstance(node, ast.Try) and node.finalbody:
        return "L6 finally"
    if isinstance(node, ast.ListComp) and (len(node.generators) != 1 or len(node.generators[0].ifs) > 1):
        return "L7 more than one for or if"
    if isinstance(node, ast.Constant) and not isinstance(node.value, (int, str, bool, type(None))):
        return "L7 a value from outside"
    if isinstance(node, ast.Constant) and isinstance(node.value, str) and "%" in node.value:
        return "L27 a sign that no text has"
    if isinstance(node, ast.Assign) and not isinstance(node.targets[0], (ast.Name, ast.Attribute, ast.Subscript)):
        return "L6 several targets"
    if isinstance(node, ast.Compare) and any(isinstance(sign, (ast.Is, ast.IsNot)) for sign in node.ops):
        if not all(isinstance(side, ast.Constant) and side.value in (None, True, False) for side in node.comparators):
            return "L20 is beside something else"
    if isinstance(node, ast.Call) and isinstance(node.func, ast.Attribute) and node.func.attr not in METHODS:
        return "L25 a method from outside"
    return None


def faults_of(text):
    faults = text_faults(text)
    tree = ast.parse(text)
    bound = bound_names(tree)
    faults.extend(local_faults(tree))
    faults.extend(f"L8, L12, L15 the name {name}" for name in bound if name in OWN_NAMES or not PLAIN.fullmatch(name))
    for node in ast.walk(tree):
        fault = node_fault(node)
        if fault is None and isinstance(node, ast.Name) and node.id not in bound | OWN_NAMES:
            fault = f"L8 the name {node.id}"
        if fault is not None:
            faults.append(f"{fault} in line {getattr(node, 'lineno', '?')}")
    return faults


class LanguageTest(unittest.TestCase):
    def test_every_file_keeps_to_it(self):
        files = sorted(PACKAGE.glob("*.py"))
        self.assertIn(PACKAGE / "__init__.py", files)
        for file in files:
            with self.subTest(file=file.name):
                self.assertEqual(faults_of(file.read_text(encoding="utf-8")), [])

    def test_nothing_else_lies_in_the_package(self):
        for path in PACKAGE.iterdir():
            if path.name != "__pycache__":
                self.assertRegex(path.name, r"\A[a-z0-9_]+\.py\Z")

    def test_faults_are_seen(self):
        for text in (
            "import os\n", "from os import path\n", "x = 1.5\n", "x = 3 / 2\n", "x = y = 1\n",
            "def f(*a):\n    return a\n", "def f():\n    yield 1\n", "x = {1: 2 for k in [1]}\n", "x = open\n",
            "x = 'a'.title()\n", "from stonelay.sure import share\n\n\ndef f(share):\n    return share\n",
            "def f(map):\n    return map\n", "class A:\n    def __add__(self):\n        return 1\n",
            "def f(x):\n    a, b = x\n    return a + b\n", "# a type\n", "x = '\u00e9'\n", "len = 3\n",
            "a_b = [1 for x in [1] for y in [2]]\n",
            "_a = 3\n", "def f(x):\n    with x:\n        pass\n", "x = 1\n" * 401, "x = '%'\n", "x = 1 is 2\n",
            "def f():\n" + "    pass\n" * 40, "x = 1" + " " * 120 + "\n", "for x in [1]:\n    pass\nelse:\n    pass\n",
        ):
            with self.subTest(text=text[:40]):
                self.assertNotEqual(faults_of(text), [])


if __name__ == "__main__":
    unittest.main()
