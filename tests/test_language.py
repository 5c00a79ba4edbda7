"""Watches over those rules of the program's small part of Python that can be seen from outside."""

import ast
import builtins
import pathlib
import re
import unittest

import stuckwire

FOLDER = pathlib.Path(stuckwire.__file__).parent
OWN_FOLDER = "stuckwire"

BUILT_IN = set(
    "len range enumerate zip min max sum abs sorted reversed int str bool list tuple dict set frozenset "
    "isinstance ord repr any all divmod Exception ValueError TypeError KeyError IndexError LookupError "
    "ZeroDivisionError ArithmeticError OverflowError RuntimeError NotImplementedError AttributeError "
    "StopIteration".split())

METHODS = set(
    "append clear copy count endswith extend find get index insert isalnum isalpha isdigit islower isspace "
    "isupper items join keys ljust lower lstrip partition pop remove replace reverse rfind rjust rpartition "
    "rsplit rstrip setdefault split splitlines startswith strip update upper values zfill bit_length".split())

UNUSED_NAMES = set("register mro elements open input version_info with_traceback add_note".split())

UNUSED_WORDS = re.compile(
    r"\b(type|typing|typing_extensions|enum|Enum|IntEnum|StrEnum|Flag|IntFlag|Generic|Protocol|ABC|ABCMeta|"
    r"namedtuple|NamedTuple|TypedDict|TYPE_CHECKING|abstractmethod)\b|dataclass|overload|contextmanager")

NODES = (
    ast.Module, ast.ImportFrom, ast.alias, ast.FunctionDef, ast.arguments, ast.arg, ast.Lambda, ast.ClassDef,
    ast.Assign, ast.AugAssign, ast.If, ast.While, ast.For, ast.Return, ast.Break, ast.Continue, ast.Pass,
    ast.Raise, ast.Try, ast.ExceptHandler, ast.Expr, ast.Constant, ast.Name, ast.List, ast.Tuple, ast.Dict,
    ast.BinOp, ast.UnaryOp, ast.BoolOp, ast.Compare, ast.IfExp, ast.Call, ast.keyword, ast.Attribute,
    ast.Subscript, ast.Slice, ast.ListComp, ast.comprehension, ast.JoinedStr, ast.FormattedValue,
    ast.expr_context, ast.operator, ast.unaryop, ast.boolop, ast.cmpop)

TWO_UNDERSCORES = ("__init__", "__eq__", "__repr__", "__str__", "__len__")


def sources():
    return [(path.name, path.read_text(encoding="utf-8")) for path in sorted(FOLDER.glob("*.py"))]


def names_in(node):
    """The names that a node binds or asks for."""
    if isinstance(node, ast.Name):
        return [node.id]
    if isinstance(node, ast.Attribute):
        return [node.attr]
    if isinstance(node, ast.arg):
        return [node.arg]
    if isinstance(node, (ast.FunctionDef, ast.ClassDef)):
        return [node.name]
    return []


def bound_in(node):
    """The names to which a node gives a meaning."""
    if isinstance(node, ast.Name) and not isinstance(node.ctx, ast.Load):
        return [node.id]
    if isinstance(node, ast.arg):
        return [node.arg]
    return []


def told_of(node):
    """What is wrong with one node by itself, or None."""
    if not isinstance(node, NODES) or isinstance(node, (ast.Div, ast.MatMult)):
        return "not of this part of the language"
    if isinstance(node, ast.ImportFrom) and (node.level or not node.module.startswith(OWN_FOLDER + ".")):
        return "an import from outside"
    if isinstance(node, (ast.FunctionDef, ast.ClassDef)) and node.decorator_list:
        return "a decorator"
    if isinstance(node, ast.FunctionDef) and node.end_lineno - node.lineno >= 40:
        return "a function too long"
    if isinstance(node, ast.arguments) and (node.vararg or node.kwarg or node.kwonlyargs or node.posonlyargs):
        return "a parameter that is not plain"
    if isinstance(node, ast.ClassDef) and not all(isinstance(s, (ast.FunctionDef, ast.Pass)) for s in node.body):
        return "more than methods in a class"
    if isinstance(node, ast.Assign) and len(node.targets) > 1:
        return "several targets"
    if isinstance(node, (ast.For, ast.While)) and node.orelse:
        return "else behind a loop"
    if isinstance(node, ast.Try) and node.finalbody:
        return "finally"
    if isinstance(node, ast.Constant):
        if isinstance(node.value, (float, complex, bytes)) or node.value is ...:
            return "a value of another kind"
        if isinstance(node.value, str) and "\x25" in node.value:
            return "a percent sign"
    if isinstance(node, ast.BinOp) and isinstance(node.op, ast.Pow) and not isinstance(node.right, ast.Constant):
        return "an exponent that is not written"
    if isinstance(node, ast.Compare) and any(isinstance(op, (ast.Is, ast.IsNot)) for op in node.ops):
        if not all(isinstance(c, ast.Constant) and c.value in (None, True, False) for c in node.comparators):
            return "is beside something else"
    for name in names_in(node):
        if name in UNUSED_NAMES or (name.startswith("_") and name not in TWO_UNDERSCORES):
            return "a name that is not used"
        if isinstance(node, ast.Name) and hasattr(builtins, name) and name not in BUILT_IN:
            return "a name of Python's own"
    for name in bound_in(node):
        if hasattr(builtins, name):
            return "a name of Python's own with another meaning"
    return None


class Language(unittest.TestCase):

    def test_files(self):
        names = [path.name for path in FOLDER.iterdir() if path.name != "__pycache__"]
        self.assertIn("__init__.py", names)
        for name in names:
            self.assertRegex(name, r"\A(__init__|[a-z][a-z0-9_]*)\.py\Z")

    def test_sizes_and_signs(self):
        for name, text in sources():
            self.assertLessEqual(len(text.splitlines()), 400, name)
            for number, line in enumerate(text.split("\n"), start=1):
                self.assertLessEqual(len(line), 120, (name, number))
                self.assertRegex(line, r"\A[ -~]*\Z", (name, number))
                self.assertIsNone(UNUSED_WORDS.search(line), (name, number))

    def test_nodes(self):
        for name, text in sources():
            for node in ast.walk(ast.parse(text)):
                wrong = told_of(node)
                self.assertIsNone(wrong, f"{name}:{getattr(node, 'lineno', '')}: {wrong}")

    def test_methods(self):
        trees = [(name, ast.parse(text)) for name, text in sources()]
        own = {node.name for tree in trees for node in ast.walk(tree[1]) if isinstance(node, ast.FunctionDef)}
        for name, tree in trees:
            for node in ast.walk(tree):
                if isinstance(node, ast.Call) and isinstance(node.func, ast.Attribute):
                    self.assertIn(node.func.attr, METHODS | own, (name, node.lineno))

    def test_names_at_the_top_are_bound_once(self):
        for name, text in sources():
            bound = []
            for node in ast.parse(text).body:
                if isinstance(node, (ast.FunctionDef, ast.ClassDef)):
                    bound.append(node.name)
                elif isinstance(node, ast.ImportFrom):
                    bound += [alias.asname or alias.name for alias in node.names]
                elif isinstance(node, ast.Assign):
                    bound += [target.id for target in node.targets]
            self.assertEqual(len(bound), len(set(bound)), name)


if __name__ == "__main__":
    unittest.main()
