"""The form of the package's files: those rules of LANGUAGE.md that can be told from the tree of a file."""

import ast
import builtins
import pathlib
import re
import unittest

PACKAGE = pathlib.Path(__file__).resolve().parent.parent / "rowblade"

NODES = (
    ast.Module, ast.ImportFrom, ast.alias, ast.FunctionDef, ast.arguments, ast.arg, ast.ClassDef, ast.Lambda,
    ast.Assign, ast.AugAssign, ast.If, ast.While, ast.For, ast.Return, ast.Break, ast.Continue, ast.Pass, ast.Raise,
    ast.Try, ast.ExceptHandler, ast.Expr, ast.Call, ast.keyword, ast.Constant, ast.Name, ast.Attribute, ast.Subscript,
    ast.Slice, ast.List, ast.Tuple, ast.Dict, ast.Set, ast.BinOp, ast.UnaryOp, ast.BoolOp, ast.Compare, ast.IfExp,
    ast.ListComp, ast.comprehension, ast.JoinedStr, ast.FormattedValue, ast.operator, ast.unaryop, ast.boolop,
    ast.cmpop, ast.expr_context,
)
NO_NODES = (ast.Div, ast.MatMult)

OWN_NAMES = set(
    "len range enumerate zip min max sum abs sorted reversed int str bool list tuple dict set frozenset isinstance ord "
    "repr any all divmod Exception ValueError TypeError KeyError IndexError LookupError ZeroDivisionError "
    "ArithmeticError OverflowError RuntimeError NotImplementedError AttributeError StopIteration".split()
)
METHODS = set(
    "append clear copy count endswith extend find get index insert isalnum isalpha isdigit islower isspace isupper "
    "items join keys ljust lower lstrip partition pop remove replace reverse rfind rjust rpartition rsplit rstrip "
    "setdefault split splitlines startswith strip update upper values zfill bit_length __init__".split()
)
UNUSED_NAMES = set("register mro elements open input version_info with_traceback add_note".split())
UNUSED_WORDS = re.compile(
    r"\b(type|typing|typing_extensions|enum|Enum|IntEnum|StrEnum|Flag|IntFlag|Generic|Protocol|ABC|ABCMeta|namedtuple"
    r"|NamedTuple|TypedDict|TYPE_CHECKING|abstractmethod)\b|dataclass|overload|contextmanager"
)
METHODS_WITH_UNDERSCORES = {"__init__", "__eq__", "__repr__", "__str__", "__len__"}


def files():
    return sorted(PACKAGE.rglob("*.py"))


def faults_of_text(text):
    lines = text.split("\n")
    if text.count("\n") > 400:
        yield "L10 file"
    for number, line in enumerate(lines, 1):
        if len(line) > 120:
            yield f"L10 line {number}"
        if any(not " " <= sign <= "~" for sign in line):
            yield f"L14 line {number}"
        if UNUSED_WORDS.search(line):
            yield f"L17 line {number}"


def faults_of_node(node, own_methods):
    if not isinstance(node, NODES) or isinstance(node, NO_NODES):
        yield f"L6, L7: {node!r}"
    if isinstance(node, ast.FunctionDef):
        if node.end_lineno - node.lineno + 1 > 40:
            yield f"L10 {node.name}"
        if node.decorator_list or node.args.vararg or node.args.kwarg or node.args.kwonlyargs:
            yield f"L4 {node.name}"
    if isinstance(node, ast.ImportFrom):
        if node.level or not (node.module == "rowblade" or node.module.startswith("rowblade.")):
            yield f"L2 {node.module}"
    if isinstance(node, (ast.For, ast.While)) and node.orelse:
        yield "L6 else behind a loop"
    if isinstance(node, ast.Assign) and len(node.targets) != 1:
        yield "L6 targets"
    if isinstance(node, ast.ListComp) and (len(node.generators) != 1 or len(node.generators[0].ifs) > 1):
        yield "L7 comprehension"
    if isinstance(node, ast.Constant):
        if not (node.value is None or isinstance(node.value, (bool, int, str))):
            yield f"L7 {node.value!r}"
        if isinstance(node.value, str) and "%" in node.value:
            yield "L27 percent sign"
    if isinstance(node, ast.Compare) and any(isinstance(op, (ast.Is, ast.IsNot)) for op in node.ops):
        if not all(isinstance(one, ast.Constant) and one.value in (None, True, False) for one in node.comparators):
            yield "L20"
    if isinstance(node, ast.Call) and isinstance(node.func, ast.Attribute):
        if node.func.attr not in METHODS | own_methods:
            yield f"L25 {node.func.attr}"


def names_of(tree):
    """Each name of a file, and whether it is one that the file binds."""
    for node in ast.walk(tree):
        if isinstance(node, ast.Name):
            yield node.id, not isinstance(node.ctx, ast.Load)
        elif isinstance(node, ast.arg):
            yield node.arg, True
        elif isinstance(node, (ast.FunctionDef, ast.ClassDef)):
            yield node.name, True
        elif isinstance(node, ast.Attribute):
            yield node.attr, False


def faults_of_names(tree):
    bound = {name for name, binds in names_of(tree) if binds}
    bound |= {alias.name for node in ast.walk(tree) if isinstance(node, ast.ImportFrom) for alias in node.names}
    for name, binds in names_of(tree):
        if name in METHODS_WITH_UNDERSCORES:
            continue
        if not re.fullmatch(r"[A-Za-z][A-Za-z0-9_]*", name):
            yield f"L12 {name}"
        if name in UNUSED_NAMES:
            yield f"L17 {name}"
        if binds and hasattr(builtins, name):
            yield f"L15 {name}"
    for node in ast.walk(tree):
        if isinstance(node, ast.Name) and node.id not in bound | OWN_NAMES:
            yield f"L8 {node.id}"


def own_methods_of(trees):
    classes = [node for tree in trees for node in ast.walk(tree) if isinstance(node, ast.ClassDef)]
    return {part.name for one in classes for part in one.body if isinstance(part, ast.FunctionDef)}


class LanguageTest(unittest.TestCase):
    def test_only_plain_files_lie_in_the_package(self):
        for path in PACKAGE.rglob("*"):
            if "__pycache__" not in path.parts:
                with self.subTest(path.name):
                    self.assertRegex(path.name, r"^([a-z][a-z0-9_]*|__init__|__main__)\.py$")
        self.assertTrue((PACKAGE / "__init__.py").is_file())

    def test_each_file_keeps_to_the_form(self):
        trees = {path: ast.parse(path.read_text("utf-8")) for path in files()}
        self.assertGreater(len(trees), 3)
        own_methods = own_methods_of(trees.values())
        for path, tree in trees.items():
            faults = list(faults_of_text(path.read_text("utf-8")))
            for node in ast.walk(tree):
                faults += faults_of_node(node, own_methods)
            faults += faults_of_names(tree)
            with self.subTest(path.name):
                self.assertEqual(faults, [])

    def test_the_top_of_each_file(self):
        for path in files():
            for node in ast.parse(path.read_text("utf-8")).body[1:]:
                with self.subTest(path.name, line=node.lineno):
                    self.assertIsInstance(node, (ast.ImportFrom, ast.FunctionDef, ast.ClassDef, ast.Assign))


if __name__ == "__main__":
    unittest.main()
