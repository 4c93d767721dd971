"""Some of the rules of LANGUAGE.md, by a look at the files.

L1 to L8, L10, L12, L14 to L18, L20, L21, L23 to L25 and L27, each in part.
"""

import ast
import builtins
import re
import unittest
from pathlib import Path

FOLDER = Path(__file__).resolve().parent.parent / "lendwharf"

NODES = """Module Import ImportFrom alias FunctionDef arguments arg ClassDef Lambda
Assign AugAssign AnnAssign If While For Return Break Continue Pass Raise Try ExceptHandler Expr
Constant List Tuple Dict Set BinOp UnaryOp BoolOp Compare IfExp Call keyword Attribute Subscript Slice
ListComp comprehension JoinedStr FormattedValue Name Load Store
Add Sub Mult FloorDiv Mod Pow LShift RShift BitOr BitXor BitAnd Invert Not UAdd USub And Or
Eq NotEq Lt LtE Gt GtE Is IsNot In NotIn""".split()

OWN_NAMES = """len range enumerate zip min max sum abs sorted reversed int str bool list tuple dict set
frozenset isinstance ord repr any all divmod Exception ValueError KeyError IndexError LookupError
ZeroDivisionError ArithmeticError OverflowError RuntimeError NotImplementedError StopIteration""".split()

METHODS = """append clear copy count endswith extend find get index insert isalnum isalpha isdigit islower
isspace isupper items join keys ljust lower lstrip partition pop remove replace reverse rfind rjust
rpartition rsplit rstrip setdefault split splitlines startswith strip update upper values zfill
bit_length""".split()

UNDERSCORED = ("__init__", "__eq__", "__repr__", "__str__", "__len__", "__all__", "__version__")

WORDS = re.compile(
    r"\b(type|typing|typing_extensions|enum|Enum|IntEnum|StrEnum|Flag|IntFlag|Generic|Protocol|ABC|ABCMeta"
    r"|namedtuple|NamedTuple|TypedDict|TYPE_CHECKING|abstractmethod)\b|dataclass|overload|contextmanager"
)


def package_files():
    return sorted(path for path in FOLDER.rglob("*") if "__pycache__" not in path.parts)


def bound_names(tree):
    for node in ast.walk(tree):
        if isinstance(node, (ast.FunctionDef, ast.ClassDef)):
            yield node.name
        elif isinstance(node, ast.arg):
            yield node.arg
        elif isinstance(node, ast.Name) and isinstance(node.ctx, ast.Store):
            yield node.id
        elif isinstance(node, ast.alias):
            yield node.asname or node.name


def text_faults(text):
    lines = text.split("\n")
    if len(lines) - 1 > 400:
        yield "L10: a file of more than 400 lines"
    for number, line in enumerate(lines, start=1):
        if len(line) > 120:
            yield f"L10: line {number} is too long"
        if not all(" " <= sign <= "~" for sign in line):
            yield f"L14: a strange sign in line {number}"
        if WORDS.search(line):
            yield f"L17: a word that stands nowhere in line {number}"


def node_faults(node):
    name = node.__class__.__name__
    if name not in NODES:
        yield f"L6, L7: {name}"
    if isinstance(node, ast.FunctionDef):
        if node.end_lineno - node.lineno + 1 > 40:
            yield f"L10: {node.name} has more than 40 lines"
        if node.decorator_list or node.args.vararg or node.args.kwarg or node.args.kwonlyargs:
            yield f"L4: {node.name}"
    if isinstance(node, ast.ClassDef) and (node.decorator_list or node.keywords or len(node.bases) > 1):
        yield f"L5: {node.name}"
    if isinstance(node, ast.Constant) and isinstance(node.value, (float, complex, bytes)):
        yield "L7: a float or bytes"
    if isinstance(node, ast.comprehension) and len(node.ifs) > 1:
        yield "L7: two ifs in a comprehension"
    if isinstance(node, ast.ListComp) and len(node.generators) > 1:
        yield "L7: two fors in a comprehension"
    if isinstance(node, ast.Assign) and len(node.targets) > 1:
        yield "L6: more than one target"
    if isinstance(node, (ast.For, ast.While)) and node.orelse:
        yield "L6: else behind a loop"
    if isinstance(node, ast.Try) and node.finalbody:
        yield "L6: finally"
    if isinstance(node, ast.Compare) and any(isinstance(op, (ast.Is, ast.IsNot)) for op in node.ops):
        if not isinstance(node.comparators[0], ast.Constant):
            yield "L20: is beside something else"


def name_faults(tree):
    """L15: a parameter or local called like an import or a class of the file."""
    taken = [alias.asname or alias.name for node in ast.walk(tree) if isinstance(node, ast.ImportFrom)
             for alias in node.names]
    taken += [node.name for node in tree.body if isinstance(node, ast.ClassDef)]
    for node in ast.walk(tree):
        local = node.arg if isinstance(node, ast.arg) else None
        if isinstance(node, ast.Name) and isinstance(node.ctx, ast.Store):
            local = node.id
        if local in taken:
            yield f"L15: {local} is called like an import or a class"
    tops = [name for node in tree.body for name in names_bound_by(node)]
    for name in sorted(set(tops)):
        if tops.count(name) > 1:
            yield f"L15: {name} is bound twice"


def names_bound_by(node):
    if isinstance(node, ast.ImportFrom):
        return [alias.asname or alias.name for alias in node.names]
    if isinstance(node, ast.Assign):
        return [target.id for target in node.targets if isinstance(target, ast.Name)]
    return [node.name] if isinstance(node, (ast.FunctionDef, ast.ClassDef)) else []


def is_call_of(node, names):
    return isinstance(node, ast.Call) and isinstance(node.func, ast.Name) and node.func.id in names


def value_faults(tree):
    """L21, L23, L24, L27: annotations, walks and sets that are kept, powers, percent signs."""
    for node in ast.walk(tree):
        if isinstance(node, ast.AnnAssign) or getattr(node, "annotation", None) or getattr(node, "returns", None):
            yield "L21: an annotation"
        if isinstance(node, (ast.Assign, ast.AugAssign, ast.Return)) and node.value is not None:
            if is_call_of(node.value, ("zip", "enumerate", "reversed", "range", "set", "frozenset")):
                yield "L23, L24: a walk or a set is kept"
            if isinstance(node.value, ast.Set):
                yield "L24: a set is kept"
        if isinstance(node, (ast.For, ast.comprehension)) and is_call_of(node.iter, ("set", "frozenset")):
            yield "L24: a set is walked"
        if isinstance(node, ast.BinOp) and isinstance(node.op, ast.Pow) and not isinstance(node.right, ast.Constant):
            yield "L27: an exponent that isn't written"
        if isinstance(node, ast.Constant) and isinstance(node.value, str) and "%" in node.value:
            yield "L27: a percent sign in a text"


def tree_faults(tree):
    yield from name_faults(tree)
    yield from value_faults(tree)
    for node in tree.body[1:]:
        if not isinstance(node, (ast.ImportFrom, ast.FunctionDef, ast.ClassDef, ast.Assign)):
            yield f"L3: {node.__class__.__name__} at the top"
    for node in ast.walk(tree):
        yield from node_faults(node)
        if isinstance(node, ast.Import):
            yield "L16: import"
        if isinstance(node, ast.ImportFrom):
            if node.level or not (node.module or "").startswith("lendwharf."):
                yield f"L2: from {node.module}"
        if isinstance(node, ast.Expr) and not isinstance(node.value, ast.Call) and node != tree.body[0]:
            yield "L6: neither a call nor another statement"
        if isinstance(node, ast.Name) and node.id in vars(builtins) and node.id not in OWN_NAMES:
            yield f"L8: {node.id}"
    methods = list(own_methods([tree]))
    for name in bound_names(tree):
        if name in vars(builtins) and name not in methods:
            yield f"L15: {name} is called like a name of Python's own"
        if name.startswith("_") and name not in UNDERSCORED:
            yield f"L12: {name}"


def called_methods(tree):
    for node in ast.walk(tree):
        if isinstance(node, ast.Call) and isinstance(node.func, ast.Attribute):
            yield node.func.attr


def own_methods(trees):
    for tree in trees:
        for node in ast.walk(tree):
            if isinstance(node, ast.ClassDef):
                yield from (part.name for part in node.body if isinstance(part, ast.FunctionDef))


def own_values(trees):
    for tree in trees:
        for node in ast.walk(tree):
            if isinstance(node, ast.Attribute) and isinstance(node.ctx, ast.Store):
                yield node.attr


def draws(trees):
    """From each module of the package to the names that it draws from each other one."""
    drawn = {}
    for module, tree in trees.items():
        rows = [node for node in ast.walk(tree) if isinstance(node, ast.ImportFrom)]
        drawn[module] = {row.module.rpartition(".")[2]: [alias.name for alias in row.names] for row in rows}
    return drawn


def package_trees():
    return {path.stem: ast.parse(path.read_text(encoding="utf-8")) for path in package_files()}


class Language(unittest.TestCase):
    def test_no_name_is_a_method_and_a_value(self):
        trees = package_trees().values()
        self.assertEqual(set(own_methods(trees)) & set(own_values(trees)), set())

    def test_names_are_drawn_from_the_file_that_defines_them(self):
        trees = package_trees()
        for module, rows in draws(trees).items():
            for source, names in rows.items():
                defined = [name for node in trees[source].body if not isinstance(node, ast.ImportFrom)
                           for name in names_bound_by(node)]
                self.assertEqual(set(names) - set(defined), set(), module)

    def test_no_two_files_draw_from_one_another(self):
        drawn = draws(package_trees())
        left = sorted(drawn)
        while left:
            ready = [module for module in left if not set(drawn[module]) & set(left)]
            self.assertNotEqual(ready, [], left)
            left = [module for module in left if module not in ready]

    def test_the_folder(self):
        paths = package_files()
        self.assertIn(FOLDER / "__init__.py", paths)
        for path in paths:
            self.assertRegex(path.name, r"\A[a-z0-9_]+\.py\Z")
            self.assertNotRegex(path.name, r"\Atest|\Asite|conftest|customize")

    def test_the_files(self):
        for path in package_files():
            text = path.read_text(encoding="utf-8")
            faults = list(text_faults(text)) + list(tree_faults(ast.parse(text)))
            self.assertEqual(faults, [], path.name)

    def test_the_methods(self):
        trees = [ast.parse(path.read_text(encoding="utf-8")) for path in package_files()]
        known = set(METHODS) | set(own_methods(trees)) | set(UNDERSCORED)
        for tree in trees:
            self.assertEqual(set(called_methods(tree)) - known, set())


class TheLookItself(unittest.TestCase):
    """A look that finds nothing anywhere would be of no use."""

    def test_faults_are_found(self):
        faulty = (
            "import os", "from os import path", "from .errors import NoTable", "x = 1.5", "x = {1: 2}[1] / 2",
            "def f(*a):\n    return a", "def f():\n    'words'\n    return 1", "x = y = 1",
            "x = [a for a in b for c in d]",
            "def f(x):\n    return getattr(x, 'y')", "def f(len):\n    return len", "def f(_x):\n    return 1",
            "def f(x, y):\n    return x is y", "def f():\n    with x:\n        pass", "x = (a for a in b)",
            "from lendwharf.errors import x\ndef f(x):\n    return 1", "def f():\n    return 1\nf = 2",
            "class C:\n    pass\ndef f():\n    C = 1", "def f(x: int):\n    return 1", "def f() -> int:\n    return 1",
            "def f(x):\n    y = zip(x, x)", "def f(x):\n    return set(x)", "def f(x):\n    y = {x}",
            "def f(x):\n    for y in set(x):\n        pass", "def f(n):\n    return 2 ** n", "x = '5 %'",
            "def f():\n    yield 1", "if 1:\n    x = 1", "def f():\n" + "    x = 1\n" * 40,
        )
        for code in faulty:
            with self.subTest(code=code):
                self.assertNotEqual(list(tree_faults(ast.parse('"""Top."""\n' + code))), [])

    def test_faults_of_text_are_found(self):
        for text in ("# the type\n", "x" * 121, "\tx = 1", "# \u00e9", "x = 1\n" * 401):
            self.assertNotEqual(list(text_faults(text)), [])


if __name__ == "__main__":
    unittest.main()
