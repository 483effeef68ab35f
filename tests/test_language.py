"""The form of the package's files: those rules of LANGUAGE.md that can be told from the tree of a file."""

import ast
import builtins
import pathlib
import re
import unittest

PACKAGE = pathlib.Path(__file__).resolve().parent.parent / "rowblade"

NODES = (
    ast.Module, ast.ImportFrom, ast.alias, ast.FunctionDef, ast.arguments, ast.arg, ast.ClassDef, ast.Lambda,
    ast.Assign, ast.AugAssign, ast.If, ast.While, ast.For, ast.Return, ast.Break, ast.Continue, ast.Pass, ast.Raise,
    ast.Try, ast.ExceptHandler, ast.Expr, ast.Call, ast.keyword, ast.Constant, ast.Name, ast.Attribute, ast.Subscript,
    ast.Slice, ast.List, ast.Tuple, ast.Dict, ast.Set, ast.BinOp, ast.UnaryOp, ast.BoolOp, ast.Compare, ast.IfExp,
    ast.ListComp, ast.comprehension, ast.JoinedStr, ast.FormattedValue, ast.operator, ast.unaryop, ast.boolop,
    ast.cmpop, ast.expr_context,
)
NO_NODES = (ast.Div, ast.MatMult)

OWN_NAMES = set(
    "len range enumerate zip min max sum abs sorted reversed int str bool list tuple dict set frozenset isinstance ord "
    "repr any all divmod Exception ValueError TypeError KeyError IndexError LookupError ZeroDivisionError "
    "ArithmeticError OverflowError RuntimeError NotImplementedError AttributeError StopIteration".split()
)
METHODS = set(
    "append clear copy count endswith extend find get index insert isalnum isalpha isdigit islower isspace isupper "
    "items join keys ljust lower lstrip partition pop remove replace reverse rfind rjust rpartition rsplit rstrip "
    "setdefault split splitlines startswith strip update upper values zfill bit_length __init__".split()
)
UNUSED_NAMES = set("register mro elements open input version_info with_traceback add_note".split())
UNUSED_WORDS = re.compile(
    r"\b(type|typing|typing_extensions|enum|Enum|IntEnum|StrEnum|Flag|IntFlag|Generic|Protocol|ABC|ABCMeta|namedtuple"
    r"|NamedTuple|TypedDict|TYPE_CHECKING|abstractmethod)\b|dataclass|overload|contextmanager"
)
METHODS_WITH_UNDERSCORES = {"__init__", "__eq__", "__repr__", "__str__", "__len__"}


def files():
    return sorted(PACKAGE.rglob("*.py"))


def faults_of_text(text):
    lines = text.split("\n")
    if text.count("\n") > 400:
        yield "L10 file"
    for number, line in enumerate(lines, 1):
        if len(line) > 120:
            yield f"L10 line {number}"
        if any(not " " <= sign <= "~" for sign in line):
            yield f"L14 line {number}"
        if UNUSED_WORDS.search(line):
            yield f"L17 line {number}"


def faults_of_node(node, own_methods):
    if not isinstance(node, NODES) or isinstance(node, NO_NODES):
        yield f"L6, L7: {node!r}"
    if isinstance(node, ast.FunctionDef):
        if node.end_lineno - node.lineno + 1 > 40:
            yield f"L10 {node.name}"
        if node.decorator_list or node.args.vararg or node.args.kwarg or node.args.kwonlyargs:
            yield f"L4 {node.name}"
    if isinstance(node, ast.ImportFrom):
        if node.level or not (node.module == "rowblade" or node.module.startswith("rowblade.")):
            yield f"L2 {node.module}"
    if isinstance(node, (ast.For, ast.While)) and node.orelse:
        yield "L6 else behind a loop"
    if isinstance(node, ast.Assign) and len(node.targets) != 1:
        yield "L6 targets"
    if isinstance(node, ast.ListComp) and (len(node.generators) != 1 or len(node.generators[0].ifs) > 1):
        yield "L7 comprehension"
    if isinstance(node, ast.Constant):
        if not (node.value is None or isinstance(node.value, (bool, int, str))):
            yield f"L7 {node.value!r}"
        if isinstance(node.value, str) and "%" in node.value:
            yield "L27 percent sign"
    if isinstance(node, ast.Compare) and any(isinstance(op, (ast.Is, ast.IsNot)) for op in node.ops):
        if not all(isinstance(one, ast.Constant) and one.value in (None, True, False) for one in node.comparators):
            yield "L20"
    if isinstance(node, ast.Call) and isinstance(node.func, ast.Attribute):
        if node.func.attr not in METHODS | own_methods:
            yield f"L25 {node.func.attr}"


def names_of(tree):
    """Each name of a file, and whether it is one that the file binds."""
    for node in ast.walk(tree):
        if isinstance(node, ast.Name):
            yield node.id, not isinstance(node.ctx, ast.Load)
        elif isinstance(node, ast.arg):
            yield node.arg, True
        elif isinstance(node, (ast.FunctionDef, ast.ClassDef)):
            yield node.name, True
        elif isinstance(node, ast.Attribute):
            yield node.attr, False


def faults_of_names(tree):
    bound = {name for name, binds in names_of(tree) if binds}
    bound |= {alias.name for node in ast.walk(tree) if isinstance(node, ast.ImportFrom) for alias in node.names}
    for name, binds in names_of(tree):
        if name in METHODS_WITH_UNDERSCORES:
            continue
        if not re.fullmatch(r"[A-Za-z][A-Za-z0-9_]*", name):
            yield f"L12 {name}"
        if name in UNUSED_NAMES:
            yield f"L17 {name}"
        if binds and hasattr(builtins, name):
            yield f"L15 {name}"
    for node in ast.walk(tree):
        if isinstance(node, ast.Name) and node.id not in bound | OWN_NAMES:
            yield f"L8 {node.id}"


def own_methods_of(trees):
    classes = [node for tree in trees for node in ast.walk(tree) if isinstance(node, ast.ClassDef)]
    return {part.name for one in classes for part in one.body if isinstance(part, ast.FunctionDef)}


def is_plain(node, defs):
    """Whether a value may stand at a file's top."""
    if isinstance(node, ast.UnaryOp):
        return isinstance(node.op, ast.USub) and isinstance(node.operand, ast.Constant)
    if isinstance(node, (ast.List, ast.Tuple)):
        return all(is_plain(part, defs) for part in node.elts)
    if isinstance(node, ast.Dict):
        return all(is_plain(part, defs) for part in node.keys + node.values)
    return isinstance(node, ast.Constant) or (isinstance(node, ast.Name) and node.id in defs)


def faults_of_top(tree):
    defs, bound = set(), set()
    for node in tree.body:
        names = [node.name] if isinstance(node, (ast.FunctionDef, ast.ClassDef)) else []
        if isinstance(node, ast.FunctionDef):
            defs.add(node.name)
        if isinstance(node, ast.Assign):
            names = [target.id for target in node.targets]
            if not is_plain(node.value, defs):
                yield f"L3 {names}"
        if isinstance(node, ast.ImportFrom):
            names = [alias.asname or alias.name for alias in node.names]
        for name in names:
            if name in bound:
                yield f"L15 {name} twice"
            bound.add(name)


def faults_of_bodies(tree):
    for node in ast.walk(tree):
        if isinstance(node, ast.ClassDef):
            if not all(isinstance(part, (ast.FunctionDef, ast.Pass)) for part in node.body) or len(node.bases) > 1:
                yield f"L5 {node.name}"
        elif isinstance(node, ast.Expr) and not isinstance(node.value, ast.Call) and node is not tree.body[0]:
            yield f"L6 line {node.lineno}"


def faults_of_locals(tree):
    taken = {node.name for node in ast.walk(tree) if isinstance(node, ast.ClassDef)}
    taken |= {alias.name for node in tree.body if isinstance(node, ast.ImportFrom) for alias in node.names}
    for node in ast.walk(tree):
        if isinstance(node, ast.FunctionDef):
            names = {arg.arg for arg in node.args.args}
            names |= {part.id for part in ast.walk(node) if isinstance(part, ast.Name) and isinstance(part.ctx, ast.Store)}
            for name in names & taken:
                yield f"L15 {name} in {node.name}"


def faults_of_classes(tree, classes):
    """Classes that stand where none may, and values walked otherwise than on the spot."""
    allowed = set()
    for node in ast.walk(tree):
        if isinstance(node, ast.Call):
            allowed.add(node.func)
            if isinstance(node.func, ast.Name) and node.func.id == "isinstance":
                allowed |= {node.args[1], *getattr(node.args[1], "elts", [])}
        elif isinstance(node, ast.ClassDef):
            allowed |= set(node.bases)
        elif isinstance(node, ast.ExceptHandler):
            allowed |= {node.type, *getattr(node.type, "elts", [])}
    for node in ast.walk(tree):
        if isinstance(node, ast.Name) and node.id in classes and node not in allowed and node.id != "self":
            yield f"L18 {node.id} line {node.lineno}"


def faults_of_given_values(tree):
    for node in ast.walk(tree):
        if isinstance(node, ast.Attribute) and isinstance(node.ctx, ast.Store) and not isinstance(node.value, ast.Name):
            yield f"L18 line {node.lineno}"


KEYWORDS = {
    "sorted": {"key", "reverse"}, "min": {"key", "default"}, "max": {"key", "default"}, "sum": {"start"},
    "enumerate": {"start"}, "zip": {"strict"},
}


def faults_of_keywords(tree):
    """Keywords at names of Python's own and at methods, which have none here."""
    for node in ast.walk(tree):
        if isinstance(node, ast.Call):
            names = {keyword.arg for keyword in node.keywords}
            own = isinstance(node.func, ast.Name) and not hasattr(builtins, node.func.id)
            if names - KEYWORDS.get(getattr(node.func, "id", ""), set()) and not own:
                yield f"L22 line {node.lineno}"


CHANGES = {"append", "clear", "extend", "insert", "pop", "remove", "reverse", "setdefault", "update"}


def faults_of_changes(tree):
    """What a loop walks, by its name or as a value of an object, changed within the loop."""
    for loop in ast.walk(tree):
        if isinstance(loop, ast.For):
            walked = [loop.iter]
            if isinstance(loop.iter, ast.Call):
                walked = loop.iter.args + ([loop.iter.func.value] if isinstance(loop.iter.func, ast.Attribute) else [])
            walked = {ast.unparse(one) for one in walked if isinstance(one, (ast.Name, ast.Attribute))}
            for node in (part for row in loop.body for part in ast.walk(row)):
                if isinstance(node, ast.Call) and isinstance(node.func, ast.Attribute) and node.func.attr in CHANGES:
                    if ast.unparse(node.func.value) in walked:
                        yield f"L23 line {node.lineno}"
                if isinstance(node, ast.Subscript) and isinstance(node.ctx, ast.Store):
                    if ast.unparse(node.value) in walked:
                        yield f"L23 line {node.lineno}"


WALKED = {"zip", "enumerate", "reversed", "range"}
WALKERS = {"list", "tuple", "dict", "sorted", "sum", "any", "all", "enumerate", "zip", "min", "max"}


def faults_of_walks(tree):
    allowed = set()
    for node in ast.walk(tree):
        if isinstance(node, (ast.For, ast.comprehension)):
            allowed.add(node.iter)
        elif isinstance(node, ast.Call) and isinstance(node.func, ast.Name) and node.func.id in WALKERS:
            allowed |= set(node.args[:1])
    for node in ast.walk(tree):
        if isinstance(node, ast.Call) and node not in allowed:
            if isinstance(node.func, ast.Name) and node.func.id in WALKED:
                yield f"L23 line {node.lineno}"
            if isinstance(node.func, ast.Attribute) and node.func.attr in ("items", "keys", "values"):
                yield f"L23 line {node.lineno}"


def defined_in(tree):
    names = {node.name for node in tree.body if isinstance(node, (ast.FunctionDef, ast.ClassDef))}
    return names | {target.id for node in tree.body if isinstance(node, ast.Assign) for target in node.targets}


def drawn_from(tree):
    return {node.module.removeprefix("rowblade.") for node in tree.body if isinstance(node, ast.ImportFrom)}


def methods_and_values(trees):
    methods, values = set(), set()
    for tree in trees:
        for node in ast.walk(tree):
            if isinstance(node, ast.ClassDef):
                methods |= {part.name for part in node.body if isinstance(part, ast.FunctionDef)}
            if isinstance(node, ast.Attribute) and isinstance(node.ctx, ast.Store):
                values.add(node.attr)
    return methods, values


class LanguageTest(unittest.TestCase):
    def test_more_of_the_form_of_each_file(self):
        trees = {path: ast.parse(path.read_text("utf-8")) for path in files()}
        classes = {node.name for tree in trees.values() for node in ast.walk(tree) if isinstance(node, ast.ClassDef)}
        for path, tree in trees.items():
            faults = list(faults_of_top(tree)) + list(faults_of_bodies(tree)) + list(faults_of_locals(tree))
            faults += list(faults_of_classes(tree, classes)) + list(faults_of_walks(tree))
            faults += list(faults_of_given_values(tree)) + list(faults_of_keywords(tree)) + list(faults_of_changes(tree))
            with self.subTest(path.name):
                self.assertEqual(faults, [])

    def test_names_are_drawn_from_the_file_that_defines_them(self):
        trees = {path.stem: ast.parse(path.read_text("utf-8")) for path in files()}
        for stem, tree in trees.items():
            for node in tree.body:
                if isinstance(node, ast.ImportFrom):
                    names = {alias.name for alias in node.names}
                    with self.subTest(stem, module=node.module):
                        self.assertEqual(names - defined_in(trees[node.module.removeprefix("rowblade.")]), set())

    def test_no_two_files_draw_from_one_another(self):
        drawn = {path.stem: drawn_from(ast.parse(path.read_text("utf-8"))) for path in files()}
        while drawn:
            free = [stem for stem, others in drawn.items() if not others & set(drawn)]
            self.assertNotEqual(free, [], sorted(drawn))
            for stem in free:
                drawn.pop(stem)

    def test_no_name_is_a_method_and_a_value(self):
        methods, values = methods_and_values([ast.parse(path.read_text("utf-8")) for path in files()])
        # The methods that the interface names are taken, whether they are there already or not.
        methods |= {"feed", "finish", "boxes", "faults", "kept"}
        self.assertEqual(methods & values, set())

    def test_only_plain_files_lie_in_the_package(self):
        for path in PACKAGE.rglob("*"):
            if "__pycache__" not in path.parts:
                with self.subTest(path.name):
                    self.assertRegex(path.name, r"^([a-z][a-z0-9_]*|__init__|__main__)\.py$")
        self.assertTrue((PACKAGE / "__init__.py").is_file())

    def test_each_file_keeps_to_the_form(self):
        trees = {path: ast.parse(path.read_text("utf-8")) for path in files()}
        self.assertGreater(len(trees), 3)
        own_methods = own_methods_of(trees.values())
        for path, tree in trees.items():
            faults = list(faults_of_text(path.read_text("utf-8")))
            for node in ast.walk(tree):
                faults += faults_of_node(node, own_methods)
            faults += faults_of_names(tree)
            with self.subTest(path.name):
                self.assertEqual(faults, [])

    def test_the_top_of_each_file(self):
        for path in files():
            for node in ast.parse(path.read_text("utf-8")).body[1:]:
                with self.subTest(path.name, line=node.lineno):
                    self.assertIsInstance(node, (ast.ImportFrom, ast.FunctionDef, ast.ClassDef, ast.Assign))


if __name__ == "__main__":
    unittest.main()
