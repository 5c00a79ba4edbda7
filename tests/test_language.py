"""Holds every file of the package to the rules L1 to L28 of its small part of Python.

A rule is a function that tells (line, words) of whatever breaks it in one file. Where a rule leaves a
choice that the package has no need of, the stricter side is taken (no annotation at all, for one). What
can't be seen in the text, how deep calls go, is tried out at the end.
"""

import ast
import builtins
import inspect
import pathlib
import re
import sys
import types
import unittest

import naive
import stuckwire
from stuckwire import alike, book, circuits, desk, faults, lean, rowing, text

FOLDER = pathlib.Path(stuckwire.__file__).parent
NAME = "stuckwire"

PYTHON_NAMES = set(dir(builtins))
FUNCTIONS = set(
    "len range enumerate zip min max sum abs sorted reversed int str bool list tuple dict set frozenset "
    "isinstance ord chr repr any all divmod".split())
ERRORS = set(
    "Exception ValueError TypeError KeyError IndexError LookupError ZeroDivisionError ArithmeticError "
    "OverflowError RuntimeError NotImplementedError AttributeError StopIteration".split())
METHODS = set(
    "append clear copy count endswith extend find get index insert isalnum isalpha isdigit islower isspace "
    "isupper items join keys ljust lower lstrip partition pop remove replace reverse rfind rjust rpartition "
    "rsplit rstrip setdefault split splitlines startswith strip update upper values zfill bit_length".split())
CHANGING = set("append clear extend insert pop remove reverse setdefault update".split())
FORBIDDEN_EVERYWHERE = set("register mro elements open input version_info with_traceback add_note".split())
FORBIDDEN_NAMES = set(
    "attrgetter breakpoint builtins compile copyright credits delattr dir eval exec exit gc getattr globals "
    "hasattr help id importlib license locals methodcaller os quit setattr super type vars".split())
FRAME_NAMES = {
    name for kind in (types.FrameType, types.CodeType, types.TracebackType, types.GeneratorType,
                      types.CoroutineType, types.AsyncGeneratorType)
    for name in dir(kind) if re.match(r"(f|co|tb|gi|cr|ag)_", name)}
FORBIDDEN_WORDS = (
    "type typing typing_extensions enum Enum IntEnum StrEnum Flag IntFlag Generic Protocol ABC ABCMeta "
    "namedtuple NamedTuple TypedDict TYPE_CHECKING abstractmethod").split()
FORBIDDEN_PARTS = "dataclass overload contextmanager".split()
WORD_PATTERN = re.compile(r"\b(" + "|".join(FORBIDDEN_WORDS) + r")\b|" + "|".join(FORBIDDEN_PARTS))
OWN_METHODS = set("__init__ __eq__ __repr__ __str__ __len__".split())
DOUBLE_NAMES = OWN_METHODS | {"__all__", "__version__", "__name__"}
VALUE_NAMES = set("count index title find get join lower upper split strip copy add".split())
NO_VALUE_NAMES = set(
    "items keys values pop update append clear extend insert remove reverse setdefault sort args encode "
    "format".split())
PYTHON_ATTRIBUTES = {name for kind in (str, int, list, tuple, dict, set, frozenset, bytes) for name in dir(kind)}
KEYWORDS = {
    "sorted": ("key", "reverse"), "min": ("key", "default"), "max": ("key", "default"), "sum": ("start",),
    "enumerate": ("start",), "zip": ("strict",)}
KEY_FUNCTIONS = set("len int str abs sum min max tuple".split())
WALKERS = set("zip enumerate reversed range".split())
VIEWS = set("items keys values".split())
WALKED_IN = set("list tuple dict sorted sum any all enumerate zip".split())
READING_CALLS = WALKED_IN | {"len", "min", "max", "reversed", "set", "frozenset", "str", "repr"}
READING_METHODS = VIEWS | {"get", "index", "count", "copy"}

STATEMENTS = (
    ast.Import, ast.ImportFrom, ast.FunctionDef, ast.ClassDef, ast.Assign, ast.AugAssign, ast.AnnAssign, ast.If,
    ast.While, ast.For, ast.Return, ast.Break, ast.Continue, ast.Pass, ast.Raise, ast.Try, ast.Expr)
EXPRESSIONS = (
    ast.Constant, ast.Name, ast.List, ast.Tuple, ast.Dict, ast.Set, ast.BinOp, ast.UnaryOp, ast.BoolOp, ast.Compare,
    ast.IfExp, ast.Call, ast.Attribute, ast.Subscript, ast.Slice, ast.ListComp, ast.JoinedStr, ast.FormattedValue,
    ast.Lambda)
SET_OPERATORS = (ast.Sub, ast.BitAnd, ast.BitOr, ast.BitXor)


class Source:
    """A file of the package: its text, its tree, and what its top binds."""

    def __init__(self, name, words):
        self.name = name
        self.words = words
        self.tree = ast.parse(words)
        self.nodes = list(ast.walk(self.tree))
        for node in self.nodes:
            for child in ast.iter_child_nodes(node):
                child.above = node
        self.is_main = name == "__main__.py"
        self.bound = []
        self.drawn = {}
        self.tops = {}
        for node in self.tree.body:
            if isinstance(node, (ast.FunctionDef, ast.ClassDef)):
                self.bound.append(node.name)
            elif isinstance(node, (ast.Import, ast.ImportFrom)):
                for alias in node.names:
                    self.bound.append(alias.asname or alias.name)
                    self.drawn[alias.asname or alias.name] = (getattr(node, "module", None), alias.name)
            elif isinstance(node, ast.Assign):
                for target in node.targets:
                    if isinstance(target, ast.Name):
                        self.bound.append(target.id)
                        self.tops[target.id] = node.value
        self.defined = [name for name in self.bound if name not in self.drawn]

    def of(self, *kinds):
        return [node for node in self.nodes if isinstance(node, kinds)]


class Package:

    def __init__(self, texts):
        self.sources = [Source(name, texts[name]) for name in sorted(texts)]
        self.classes = {node.name: node for source in self.sources for node in source.of(ast.ClassDef)}
        self.methods = {node.name for made in self.classes.values() for node in made.body
                        if isinstance(node, ast.FunctionDef)}
        self.values = {node.attr for source in self.sources for node in source.of(ast.Attribute)
                       if isinstance(node.ctx, ast.Store)}
        self.functions = {node.name for source in self.sources for node in source.of(ast.FunctionDef)
                          if not isinstance(node.above, ast.ClassDef)}

    def source(self, module):
        """The file of a module's full name, or None."""
        for source in self.sources:
            if module == NAME + "." + source.name[:-3]:
                return source
        return None

    def is_error(self, name):
        seen = []
        while name in self.classes and name not in seen and self.classes[name].bases:
            seen.append(name)
            name = getattr(self.classes[name].bases[0], "id", None)
        return name in ERRORS


def inside(node, *kinds):
    """Whether some node above is of these kinds."""
    while hasattr(node, "above"):
        node = node.above
        if isinstance(node, kinds):
            return True
    return False


def called(node):
    """The name that a call calls by name, or None."""
    if isinstance(node, ast.Call) and isinstance(node.func, ast.Name):
        return node.func.id
    return None


def method_called(node):
    if isinstance(node, ast.Call) and isinstance(node.func, ast.Attribute):
        return node.func.attr
    return None


def is_plain(node, functions, within=False):
    if isinstance(node, ast.Constant):
        return node.value is None or isinstance(node.value, (int, str))
    if isinstance(node, ast.UnaryOp):
        return isinstance(node.op, ast.USub) and isinstance(node.operand, ast.Constant)
    if isinstance(node, (ast.List, ast.Tuple)):
        return all(is_plain(part, functions, True) for part in node.elts)
    if isinstance(node, ast.Dict):
        return all(is_plain(part, functions, True) for part in node.keys + node.values)
    return within and isinstance(node, ast.Name) and node.id in functions


def is_text(node):
    return isinstance(node, ast.Constant) and isinstance(node.value, str)


def is_docstring(node):
    return isinstance(node, ast.Expr) and is_text(node.value) and node is node.above.body[0]


def identifiers(source):
    """(node, name, place) of every name that is written, but keywords of calls."""
    for node in source.nodes:
        if isinstance(node, ast.Name):
            yield node, node.id, "name"
        elif isinstance(node, ast.Attribute):
            yield node, node.attr, "attribute"
        elif isinstance(node, ast.arg):
            yield node, node.arg, "name"
        elif isinstance(node, ast.ClassDef):
            yield node, node.name, "name"
        elif isinstance(node, ast.FunctionDef):
            yield node, node.name, "attribute" if isinstance(node.above, ast.ClassDef) else "name"
        elif isinstance(node, (ast.Import, ast.ImportFrom)):
            for alias in node.names:
                yield node, alias.asname or alias.name, "name"
        elif isinstance(node, ast.ExceptHandler) and node.name:
            yield node, node.name, "name"


def local_names(source):
    """(node, name) of every parameter and every local."""
    for node in source.nodes:
        if isinstance(node, ast.arg):
            yield node, node.arg
        elif isinstance(node, ast.Name) and isinstance(node.ctx, ast.Store) and inside(node, ast.FunctionDef, ast.Lambda):
            yield node, node.id
        elif isinstance(node, ast.FunctionDef) and inside(node, ast.FunctionDef):
            yield node, node.name
        elif isinstance(node, ast.ExceptHandler) and node.name:
            yield node, node.name


def file_names(package, source):
    if not re.fullmatch(r"[A-Za-z0-9_]+\.py", source.name):
        yield 1, "not a plain name of a file"


def imports(package, source):
    behind = False
    for node in source.tree.body:
        if isinstance(node, (ast.Import, ast.ImportFrom)) and behind:
            yield node.lineno, "an import behind other things"
        behind = behind or not (isinstance(node, (ast.Import, ast.ImportFrom)) or is_docstring(node))
    for node in source.of(ast.Import, ast.ImportFrom):
        names = [(alias.name, alias.asname) for alias in node.names]
        if not isinstance(node.above, ast.Module):
            yield node.lineno, "an import that is not at the top"
        if isinstance(node, ast.Import):
            if not source.is_main or names != [("sys", None)]:
                yield node.lineno, "an import that is not drawn from a file of the package"
        elif node.module == "__future__" and names == [("annotations", None)]:
            continue
        elif node.level or not re.fullmatch(NAME + r"(\.[a-z0-9_]+)+", node.module) or "*" in names[0]:
            yield node.lineno, "an import that is not from the package by its full name"
        elif node.module.endswith(".__main__"):
            yield node.lineno, "an import of __main__"


def module_top(package, source):
    functions = []
    for place, node in enumerate(source.tree.body):
        if isinstance(node, ast.FunctionDef):
            functions.append(node.name)
        elif isinstance(node, ast.Assign):
            if not all(isinstance(target, ast.Name) for target in node.targets) or not is_plain(node.value, functions):
                yield node.lineno, "not a plain value"
        elif isinstance(node, ast.If):
            last = place == len(source.tree.body) - 1
            if not (source.is_main and last and ast.unparse(node.test) == "__name__ == '__main__'" and not node.orelse):
                yield node.lineno, "something is done at the top"
        elif not isinstance(node, (ast.Import, ast.ImportFrom, ast.ClassDef)) and not is_docstring(node):
            yield node.lineno, "something is done at the top"


def given_in(node, left_out):
    """The names that a function gives values to, some of its parts left out."""
    return {part.id for part in ast.walk(node) if isinstance(part, ast.Name) and isinstance(part.ctx, ast.Store)
            and part not in left_out and not isinstance(part.above, ast.comprehension)}


def parameters(package, source):
    for node in source.of(ast.FunctionDef, ast.Lambda):
        taken = node.args
        if taken.vararg or taken.kwarg or taken.kwonlyargs or taken.posonlyargs:
            yield node.lineno, "a parameter that is not plain"
        if not all(is_plain(value, []) for value in taken.defaults):
            yield node.lineno, "a default that is not plain"
        if getattr(node, "decorator_list", []):
            yield node.lineno, "a decorator"
        if inside(node, ast.FunctionDef):
            around = node.above
            while not isinstance(around, ast.FunctionDef):
                around = around.above
            outer = {part.arg for part in around.args.args} | given_in(around, list(ast.walk(node)))
            if outer & given_in(node, []):
                yield node.lineno, "an inner function gives a value to a name from around it"


def classes(package, source):
    for node in source.of(ast.ClassDef):
        if node.decorator_list or node.keywords or len(node.bases) > 1:
            yield node.lineno, "not a plain class"
        for base in node.bases:
            if not isinstance(base, ast.Name) or base.id not in ERRORS | set(package.classes):
                yield node.lineno, "a base that is not allowed"
        for part in node.body:
            if not isinstance(part, (ast.FunctionDef, ast.Pass)):
                yield part.lineno, "something else than methods in a class"
            elif isinstance(part, ast.FunctionDef) and part.name.startswith("__") and part.name not in OWN_METHODS:
                yield part.lineno, "a method with two underscores"


def statements(package, source):
    for node in source.of(ast.stmt, ast.ExceptHandler):
        if not isinstance(node, STATEMENTS + (ast.ExceptHandler,)):
            yield node.lineno, "a statement that is not allowed"
        elif isinstance(node, ast.Assign) and len(node.targets) > 1:
            yield node.lineno, "several targets"
        elif isinstance(node, (ast.For, ast.While)) and node.orelse:
            yield node.lineno, "else behind a loop"
        elif isinstance(node, ast.Try) and (node.finalbody or not node.handlers):
            yield node.lineno, "finally"
        elif isinstance(node, ast.Expr) and not isinstance(node.value, ast.Call):
            if not (is_docstring(node) and isinstance(node.above, (ast.Module, ast.FunctionDef))):
                yield node.lineno, "a value by itself"
        elif isinstance(node, ast.ExceptHandler):
            taken = node.type.elts if isinstance(node.type, ast.Tuple) else [node.type]
            if not all(isinstance(part, ast.Name) for part in taken):
                yield node.lineno, "except without a named class"


def expressions(package, source):
    for node in source.of(ast.expr, ast.comprehension, ast.AugAssign):
        line = getattr(node, "lineno", 0)
        if isinstance(node, ast.comprehension):
            if len(node.ifs) > 1 or node.is_async or len(node.above.generators) > 1:
                yield node.iter.lineno, "a comprehension with more than one for or if"
        elif isinstance(node, (ast.BinOp, ast.AugAssign)) and isinstance(node.op, (ast.Div, ast.MatMult)):
            yield line, "an operator that is not allowed"
        elif isinstance(node, ast.AugAssign):
            continue
        elif not isinstance(node, EXPRESSIONS):
            yield line, "an expression that is not allowed"
        elif isinstance(node, ast.Constant) and not (node.value is None or isinstance(node.value, (int, str))):
            yield line, "a value of another kind"
        elif isinstance(node, ast.Set) and not inside(node, ast.FunctionDef):
            yield line, "a set outside of a function"
        elif isinstance(node, ast.Dict) and None in node.keys:
            yield line, "a star"
        elif isinstance(node, ast.Call) and any(keyword.arg is None for keyword in node.keywords):
            yield line, "a star"
        elif isinstance(node, ast.FormattedValue):
            if not isinstance(node.value, ast.Name) or node.conversion not in (-1, ord("r")) or node.format_spec:
                yield line, "more than a name in an f-string"


def python_names(package, source):
    for node, name, place in identifiers(source):
        if place == "name" and name in PYTHON_NAMES:
            reads = isinstance(node, ast.Name) and isinstance(node.ctx, ast.Load)
            if not reads and name not in DOUBLE_NAMES:
                yield node.lineno, "another meaning for a name of Python's own"
            elif name not in FUNCTIONS | ERRORS | DOUBLE_NAMES and not (name == "print" and source.is_main):
                yield node.lineno, "a name of Python's own that is not allowed"
        if name.startswith("__") and name not in DOUBLE_NAMES:
            yield node.lineno, "two underscores"
        if place == "attribute" and name in ("format", "format_map", "mro"):
            yield node.lineno, "an attribute that is not allowed"


def input_and_output(package, source):
    for node, name, place in identifiers(source):
        if name in ("print", "open", "input", "sys", "stdin", "stdout") and not source.is_main:
            yield node.lineno, "input or output"


def sizes(package, source):
    lines = source.words.split("\n")
    if len(source.words.splitlines()) > 400:
        yield 400, "a file too long"
    for number, line in enumerate(lines, start=1):
        if len(line) > 120:
            yield number, "a line too long"
        if "\t" in line:
            yield number, "a tab"
    for node in source.of(ast.FunctionDef):
        if node.end_lineno - node.lineno + 1 > 40:
            yield node.lineno, "a function too long"


def same_on_both(package, source):
    for handler in source.of(ast.ExceptHandler):
        for node in ast.walk(handler):
            if isinstance(node, ast.Name) and node.id == handler.name and isinstance(node.ctx, ast.Load):
                if not isinstance(node.above, ast.Raise) or node.above.cause is not node:
                    yield node.lineno, "an error's own words may be asked for"
    for node in source.of(ast.For, ast.comprehension):
        if is_set(node.iter):
            yield node.iter.lineno, "a set that is walked"


def plain_names(package, source):
    for node, name, place in identifiers(source):
        if not re.fullmatch(r"[A-Za-z][A-Za-z0-9_]*", name) and name not in DOUBLE_NAMES:
            yield node.lineno, "not a plain name"
    for node in source.of(ast.keyword):
        if not re.fullmatch(r"[A-Za-z][A-Za-z0-9_]*", node.arg or ""):
            yield node.value.lineno, "not a plain name"


def two_forms(package, source):
    for node in source.of(ast.Set):
        numbers = [part for part in node.elts if isinstance(part, ast.Constant) and isinstance(part.value, int)]
        asked = isinstance(node.above, ast.Compare) and isinstance(node.above.ops[-1], (ast.In, ast.NotIn))
        if len(numbers) >= 3 and not asked:
            yield node.lineno, "a set of numbers written out"
    seen = []
    for node in source.of(ast.Lambda):
        form = (node.lineno, ast.dump(node.args))
        if form in seen:
            yield node.lineno, "two lambdas alike on one line"
        seen.append(form)


def signs(package, source):
    stem = source.name[:-3]
    forbidden = ["test", "tests", "testing", "site", "conftest", "sitecustomize", "usercustomize"]
    forbidden += FORBIDDEN_WORDS + FORBIDDEN_PARTS
    if source.name != source.name.lower() or stem in forbidden or stem.startswith("test_") or stem in PYTHON_NAMES:
        yield 1, "a name that no file has"
    if any(part in stem for part in FORBIDDEN_PARTS):
        yield 1, "a name that no file has"
    for number, line in enumerate(source.words.split("\n"), start=1):
        if not re.fullmatch(r"[ -~]*", line):
            yield number, "a sign that is not allowed"


def collections_of(package, source):
    """The lists and dicts at a file's top, its own and those drawn from others."""
    found = [name for name, value in source.tops.items() if isinstance(value, (ast.List, ast.Dict))]
    for name, (module, first) in source.drawn.items():
        other = package.source(module or "")
        if other is not None and isinstance(other.tops.get(first), (ast.List, ast.Dict)):
            found.append(name)
    return found


def is_only_read(node):
    above = node.above
    if isinstance(above, ast.Subscript):
        return above.value is node and isinstance(above.ctx, ast.Load)
    if isinstance(above, (ast.For, ast.comprehension)):
        return above.iter is node
    if isinstance(above, ast.Compare):
        return all(isinstance(op, (ast.In, ast.NotIn, ast.Eq, ast.NotEq)) for op in above.ops)
    if isinstance(above, ast.Attribute):
        return method_called(above.above) in READING_METHODS and above.above.func is above
    return called(above) in READING_CALLS


def each_name_once(package, source):
    for name in sorted(set(source.bound)):
        if source.bound.count(name) > 1:
            yield 1, f"{name} is bound more than once"
    for node in source.of(ast.ClassDef):
        if not isinstance(node.above, ast.Module):
            yield node.lineno, "a class that is not at the top"
    for value in source.tops.values():
        parts = [part for part in ast.walk(value) if isinstance(part, (ast.List, ast.Dict)) and part is not value]
        if parts and isinstance(value, (ast.List, ast.Dict, ast.Tuple)):
            yield value.lineno, "a list or dict within another one at the top"
    kept = collections_of(package, source)
    for node in source.of(ast.Name):
        if node.id in kept and inside(node, ast.FunctionDef) and not is_only_read(node):
            yield node.lineno, "more than reading at a list or dict of the top"
    taken = list(source.drawn) + [node.name for node in source.of(ast.ClassDef)]
    for node, name in local_names(source):
        if name in taken or name in PYTHON_NAMES:
            yield node.lineno, "a local that is called like something else"


def draws(package, source):
    """The files that a file draws from, in one step."""
    found = []
    for module, first in source.drawn.values():
        if module is not None and module.startswith(NAME + "."):
            found += [module, NAME + ".__init__"]
    return sorted(set(found) - {NAME + "." + source.name[:-3]})


def drawing(package, source):
    for node in source.of(ast.Import):
        if not source.is_main:
            yield node.lineno, "not a row of the form from .. import .."
    for name, (module, first) in source.drawn.items():
        if module is not None and module.startswith(NAME):
            other = package.source(module)
            if other is None or first not in other.defined:
                yield 1, f"{name} is not defined in the file it is drawn from"
    own = NAME + "." + source.name[:-3]
    reached = draws(package, source)
    for module in reached:
        other = package.source(module)
        if other is not None:
            reached += [further for further in draws(package, other) if further not in reached]
    if own in reached:
        yield 1, "files that draw from one another"
    if source.name == "__init__.py":
        others = [other for other in package.sources if other is not source]
        theirs = [name for other in others for name in other.bound + [other.name[:-3]]]
        for name in source.bound:
            if name in theirs:
                yield 1, f"{name} is also a name of a file"


def forbidden_names(package, source):
    for node, name, place in identifiers(source):
        if name in FORBIDDEN_EVERYWHERE | FRAME_NAMES:
            yield node.lineno, "a name that is not used"
        if place == "name" and (name in FORBIDDEN_NAMES or (name == "sys" and not source.is_main)):
            yield node.lineno, "a name that is not used"
        if name == "__name__" and not (source.is_main and inside(node, ast.If)):
            yield node.lineno, "__name__"
    for number, line in enumerate(source.words.split("\n"), start=1):
        if WORD_PATTERN.search(line):
            yield number, "a word that stands nowhere"


def class_is_used_well(node):
    above = node.above
    while isinstance(above, ast.Tuple):
        above = above.above
    if isinstance(above, ast.Call):
        return above.func is node or called(above) == "isinstance"
    if isinstance(above, ast.Attribute):
        return above.attr == "__init__"
    return isinstance(above, (ast.ClassDef, ast.ExceptHandler, ast.Raise))


def class_values(package, source):
    for node in source.of(ast.Name):
        if node.id in package.classes and isinstance(node.ctx, ast.Load) and not class_is_used_well(node):
            yield node.lineno, "a class that is kept, handed on or shown"
    for node in source.of(ast.Attribute):
        if isinstance(node.ctx, ast.Store):
            if not isinstance(node.value, ast.Name) or node.value.id in source.bound:
                yield node.lineno, "a value that is not given through a local name"
        if node.attr in package.methods and node.attr in package.values:
            yield node.lineno, "a method here and a value there"
    for node in source.of(ast.ClassDef):
        names = [part.name for part in node.body if isinstance(part, ast.FunctionDef)]
        if len(names) != len(set(names)):
            yield node.lineno, "a method that stands twice"
        for base in node.bases:
            if getattr(base, "id", None) in ("StopIteration", "AttributeError"):
                yield node.lineno, "an error class under this one"


def is_bare_try(package, node, name):
    """Whether a try that takes one of Python's wide errors holds nothing but what it may."""
    special = {"__eq__", "__len__", "__str__", "__repr__"} & package.methods
    for part in [part for statement in node.body for part in ast.walk(statement)]:
        if isinstance(part, ast.Call):
            plain = called(part) in ("int", "str") or method_called(part) in ("index", "remove")
            if name == "IndexError" or not plain or (special and called(part) == "str"):
                return False
        if isinstance(part, (ast.JoinedStr, ast.Slice, ast.Lambda, ast.ListComp)):
            return False
        if isinstance(part, (ast.BinOp, ast.AugAssign)):
            if isinstance(part.op, (ast.Mult, ast.Pow, ast.Mod, ast.LShift, ast.RShift)):
                return False
        if special and isinstance(part, (ast.Compare, ast.BoolOp, ast.IfExp, ast.Not, ast.If, ast.While)):
            return False
    return len(node.body) == 1


def errors_taken(package, source):
    for node in source.of(ast.Raise):
        if called(node.exc) not in package.classes or not package.is_error(called(node.exc)):
            yield node.lineno, "an error that is not made on the spot, or not the program's own"
        if node.cause is not None and ast.unparse(node.cause) != "None":
            above = node
            while hasattr(above, "above") and not isinstance(above, ast.ExceptHandler):
                above = above.above
            if not isinstance(above, ast.ExceptHandler) or ast.unparse(node.cause) != above.name:
                yield node.lineno, "an error from something else"
    for node in source.of(ast.ExceptHandler):
        taken = node.type.elts if isinstance(node.type, ast.Tuple) else [node.type]
        names = [getattr(part, "id", None) for part in taken]
        for name in names:
            if name in ("ValueError", "LookupError", "IndexError"):
                if not is_bare_try(package, node.above, name):
                    yield node.lineno, "too much round which this error is taken"
            elif name not in package.classes and name not in ("KeyError", "ZeroDivisionError", "StopIteration"):
                yield node.lineno, "an error that is not taken"


def asked_with_is(package, source):
    for node in source.of(ast.Compare):
        if any(isinstance(op, (ast.Is, ast.IsNot)) for op in node.ops):
            sides = [node.left] + node.comparators
            if not any(isinstance(side, ast.Constant) and repr(side.value) in ("None", "True", "False") for side in sides):
                yield node.lineno, "is beside something else"


def annotations(package, source):
    for node in source.of(ast.AnnAssign, ast.FunctionDef, ast.arg):
        if isinstance(node, ast.AnnAssign) or getattr(node, "returns", None) or getattr(node, "annotation", None):
            yield node.lineno, "an annotation"


def is_key(node):
    return isinstance(node.above, ast.keyword) and node.above.arg == "key"


def python_calls(package, source):
    own = package.functions | {name for name in source.bound}
    for node in source.of(ast.Name):
        if node.id not in FUNCTIONS or getattr(node.above, "func", None) is node:
            continue
        above = node.above.above if isinstance(node.above, ast.Tuple) else node.above
        if not (called(above) == "isinstance" or (is_key(node) and node.id in KEY_FUNCTIONS)):
            yield node.lineno, "a function of Python's own as a value"
    for node in source.of(ast.Call):
        name = called(node)
        if name == "isinstance":
            kinds = node.args[-1].elts if isinstance(node.args[-1], ast.Tuple) else [node.args[-1]]
            allowed = {"int", "str", "bool", "list", "tuple", "dict"} | ERRORS | set(package.classes)
            if len(node.args) != 2 or not all(getattr(kind, "id", None) in allowed for kind in kinds):
                yield node.lineno, "isinstance in another form"
        plain = name in FUNCTIONS or name in ERRORS or package.is_error(name) or method_called(node) in METHODS
        for keyword in node.keywords:
            if plain and keyword.arg not in KEYWORDS.get(name, ()):
                yield node.lineno, "a keyword that is not allowed"
            elif plain and keyword.arg in ("reverse", "strict"):
                if not isinstance(keyword.value, ast.Constant) or not isinstance(keyword.value.value, bool):
                    yield node.lineno, "not a written True or False"
            elif plain and keyword.arg == "key":
                if not isinstance(keyword.value, (ast.Lambda, ast.Attribute)):
                    if getattr(keyword.value, "id", None) not in own | KEY_FUNCTIONS:
                        yield node.lineno, "a key of another form"


def is_walked(node):
    above = node.above
    if isinstance(above, (ast.For, ast.comprehension)):
        return above.iter is node
    if called(above) in WALKED_IN:
        return above.args[:1] == [node]
    if called(above) in ("min", "max"):
        return above.args == [node]
    return method_called(above) == "join" and is_text(above.func.value) and above.args == [node]


def walked_things(node):
    """What a loop walks: by itself, or through enumerate, zip, reversed, items and their like."""
    if called(node) in ("enumerate", "zip", "reversed"):
        return [thing for part in node.args for thing in walked_things(part)]
    if method_called(node) in VIEWS:
        return walked_things(node.func.value)
    return [ast.unparse(node)] if isinstance(node, (ast.Name, ast.Attribute)) else []


def changed_thing(node):
    """What a node changes in its place, or None."""
    if method_called(node) in CHANGING:
        return ast.unparse(node.func.value)
    if isinstance(node, ast.Subscript) and isinstance(node.ctx, ast.Store):
        return ast.unparse(node.value)
    if isinstance(node, ast.AugAssign):
        return ast.unparse(node.target)
    return None


def walks(package, source):
    for node in source.of(ast.Call):
        if (called(node) in WALKERS or method_called(node) in VIEWS) and not is_walked(node):
            yield node.lineno, "not walked on the spot"
    for node in source.of(ast.For):
        things = walked_things(node.iter)
        for part in [part for statement in node.body for part in ast.walk(statement)]:
            if changed_thing(part) in things:
                yield part.lineno, "what a loop walks is changed in it"


def is_set(node):
    if isinstance(node, ast.BinOp) and isinstance(node.op, SET_OPERATORS):
        return is_set(node.left) or is_set(node.right)
    return isinstance(node, ast.Set) or called(node) in ("set", "frozenset")


def sets(package, source):
    for node in source.of(ast.Set, ast.Call):
        if not is_set(node):
            continue
        above = node
        while isinstance(above.above, ast.BinOp) and isinstance(above.above.op, SET_OPERATORS):
            above = above.above
        outer = above.above
        if isinstance(outer, ast.Compare):
            sides = [outer.left] + outer.comparators
            same = all(isinstance(op, (ast.Eq, ast.NotEq)) for op in outer.ops) and all(is_set(side) for side in sides)
            if same or isinstance(outer.ops[0], (ast.In, ast.NotIn)):
                continue
        if called(outer) in ("sorted", "len") and outer.args == [above] and not outer.keywords:
            continue
        yield node.lineno, "a set that is kept or walked"


def method_calls(package, source):
    for node in source.of(ast.Attribute):
        is_call = isinstance(node.above, ast.Call) and node.above.func is node
        if source.is_main and ast.unparse(node).startswith("sys."):
            continue
        if is_call and node.attr not in METHODS | package.methods:
            yield node.lineno, "a method that is not allowed"
        if not is_call and node.attr in METHODS | package.methods and node.attr not in package.values:
            if not is_key(node):
                yield node.lineno, "a method that is handed on"


def own_names(package, source):
    for node in source.of(ast.ClassDef):
        for part in node.body:
            if isinstance(part, ast.FunctionDef) and part.name in PYTHON_ATTRIBUTES - OWN_METHODS:
                if part.name not in METHODS | {"add", "discard"}:
                    yield part.lineno, "a method that is called like one of Python's"
    for node in source.of(ast.Attribute):
        if isinstance(node.ctx, ast.Store):
            if node.attr in NO_VALUE_NAMES or node.attr in PYTHON_ATTRIBUTES - VALUE_NAMES:
                yield node.lineno, "a value that is called like one of Python's"


def numbers_and_texts(package, source):
    for node in source.of(ast.BinOp, ast.AugAssign):
        if isinstance(node.op, ast.Pow):
            power = node.right if isinstance(node, ast.BinOp) else node.value
            if not isinstance(power, ast.Constant) or power.value not in range(65):
                yield node.lineno, "an exponent that is not written"
    for node in source.of(ast.Constant):
        if isinstance(node.value, str) and chr(37) in node.value:
            yield node.lineno, "a percent sign in a text"
        if isinstance(node.value, int) and abs(node.value) >= 10 ** 900:
            yield node.lineno, "a number too long"
    for node in source.of(ast.Name):
        if node.id == "chr":
            yield node.lineno, "chr"
    for number, line in enumerate(source.words.split("\n"), start=1):
        for behind in re.findall(r"\\(.?)", line):
            if behind == "" or behind not in "nt\\'\"":
                yield number, "an escape that is not allowed"
    for node in source.of(ast.FormattedValue):
        if any(is_text(part) for part in ast.walk(node.value)):
            yield node.lineno, "a text within an f-string's braces"


def told_well(name, node):
    """Whether a return of __len__, __repr__ or __str__ has one of its forms."""
    if name == "__len__":
        return called(node) == "len" or (isinstance(node, ast.Constant) and isinstance(node.value, int))
    if method_called(node) == "join":
        return is_text(node.func.value)
    return is_text(node) or isinstance(node, ast.JoinedStr) or called(node) in ("str", "repr")


def special_methods(package, source):
    for node in source.of(ast.FunctionDef):
        if not isinstance(node.above, ast.ClassDef) or node.name not in OWN_METHODS:
            continue
        for part in ast.walk(node):
            if isinstance(part, ast.Return):
                if node.name == "__init__" and part.value is not None:
                    yield part.lineno, "__init__ gives something back"
                if node.name in ("__len__", "__repr__", "__str__") and not told_well(node.name, part.value):
                    yield part.lineno, "a return of another form"
            if node.name != "__init__":
                stores = isinstance(part, ast.Attribute) and isinstance(part.ctx, ast.Store)
                if stores or changed_thing(part) is not None:
                    yield part.lineno, "something is changed here"
    for node in source.of(ast.Attribute):
        if node.attr == "__init__":
            call = node.above
            good = isinstance(call, ast.Call) and call.func is node and call.args and ast.unparse(call.args[0]) == "self"
            if not good or getattr(node.value, "id", None) not in set(package.classes) | ERRORS:
                yield node.lineno, "a base's __init__ in another form"


RULES = {
    "L1": file_names, "L2": imports, "L3": module_top, "L4": parameters, "L5": classes, "L6": statements,
    "L7": expressions, "L8": python_names, "L9": input_and_output, "L10": sizes, "L11": same_on_both,
    "L12": plain_names, "L13": two_forms, "L14": signs, "L15": each_name_once, "L16": drawing,
    "L17": forbidden_names, "L18": class_values, "L19": errors_taken, "L20": asked_with_is, "L21": annotations,
    "L22": python_calls, "L23": walks, "L24": sets, "L25": method_calls, "L26": own_names,
    "L27": numbers_and_texts, "L28": special_methods}


def broken(texts):
    """(rule, file, line, words) for whatever breaks a rule in these files of a package."""
    package = Package(texts)
    found = []
    for source in package.sources:
        for rule, judge in RULES.items():
            found += [(rule, source.name, line, words) for line, words in judge(package, source)]
    return found


def package_texts():
    return {path.name: path.read_bytes().decode("utf-8") for path in sorted(FOLDER.glob("*.py"))}


def in_function(*lines):
    return "def asked(xs, d, x):\n" + "".join("    " + line + "\n" for line in lines)


def in_class(*lines):
    return "class Kept:\n" + "".join("    " + line + "\n" for line in lines)


def each_in_function(*lines):
    return [in_function(line) for line in lines]


FIRST = "from stuckwire.errors import Wrong\n"
BESIDE = {"__init__.py": '"""A package."""\n', "errors.py": "class Wrong(ValueError):\n    pass\n"}

# Each text breaks the rule it stands under; a dict gives files beside or in the place of sample.py.
BREAKING = {
    "L1": [{"sam-ple.py": "A = 1\n"}, {"sam ple.py": "A = 1\n"}],
    "L2": [
        "import os\n", "import sys\n", "from sys import argv\n", "from .errors import Wrong\n",
        "from . import errors\n", "from stuckwire.errors import *\n", "import stuckwire.errors as errors\n",
        "from stuckwire import errors\n", in_function("from stuckwire.errors import Wrong"), "A = 1\n" + FIRST,
        "from stuckwire.__main__ import run\n", "from __future__ import division\n", "import stuckwire.errors\n"],
    "L3": [
        "print(1)\n", "for a in [1]:\n    pass\n", "A = len([1])\n", "A = 1 + 1\n", "A = [b for b in [1]]\n",
        "A = (1,)\nA[0] = 2\n", "A += 1\n", "if True:\n    A = 1\n", "def f():\n    pass\n\n\nA = f\n",
        "A = [f]\n\n\ndef f():\n    pass\n", "A, B = 1, 2\n", "if __name__ == '__main__':\n    pass\n", "A = 1\n'text'\n",
        {"__main__.py": "if __name__ == '__main__':\n    pass\nA = 1\n"}],
    "L4": [
        "def f(*a):\n    pass\n", "def f(**a):\n    pass\n", "def f(*, a):\n    pass\n", "def f(a, /):\n    pass\n",
        "def f(a=len('')):\n    pass\n", "@f\ndef g():\n    pass\n", in_function("return lambda *a: 1"),
        in_function("def inner():", "    x = 1", "return inner()"), in_function("y = 1", "def inner():", "    y = 2")],
    "L5": [
        "class A:\n    b = 1\n", "class A(dict):\n    pass\n", "@f\nclass A:\n    pass\n",
        "class A(B, C):\n    pass\n", "class A(metaclass=B):\n    pass\n", "class A:\n    'Words.'\n",
        in_class("def __hash__(self):", "    return 1"), in_class("def __getattr__(self, name):", "    return 1")],
    "L6": each_in_function("a = b = 1", "del x", "assert x", "global y", "x", "1 + 1", "xs[0]", "yield x") + [
        in_function("for a in xs:", "    pass", "else:", "    pass"),
        in_function("while x:", "    pass", "else:", "    pass"),
        in_function("with x:", "    pass"), in_function("match x:", "    case 1:", "        pass"),
        in_function("try:", "    pass", "finally:", "    pass"), in_function("try:", "    pass", "except:", "    pass"),
        in_function("def inner():", "    nonlocal x"), "async def f():\n    pass\n",
        in_function("try:", "    pass", "except errors.Wrong:", "    pass")],
    "L7": each_in_function(
        "return 1.5", "return x / 2", "return b''", "return ...", "return 2j", "return {a for a in xs}",
        "return {a: a for a in xs}", "return sum(a for a in xs)", "return [a for b in xs for a in b]",
        "return [a for a in xs if a if x]", "return (y := x)", "return [*xs]", "return f(*xs)", "return f(**d)",
        "return {**d}", "return f'{x + 1}'", "return f'{x:3}'", "return f'{x!s}'", "return x @ x", "return f'{x.y}'",
        "x /= 2", "yield x") + ["A = {1}\n", "async def f(x):\n    await x\n"],
    "L8": each_in_function(
        "return map(f, xs)", "return filter(f, xs)", "return pow(2, x)", "return hash(x)", "return object()",
        "return iter(xs)", "print(x)", "return round(x)", "return float(x)", "return bytes(x)",
        "return '{}'.format(x)", "return x.format_map(d)", "return x.mro", "return __file__", "return x.__dict__",
        "return x.__class__", "return hex(x)", "return OSError(x)", "return callable(x)", "min = 1") + [
        "def len(x):\n    pass\n", "class list:\n    pass\n", "sum = 1\n", "__own__ = 1\n"],
    "L9": each_in_function("print(x)", "return open(x)", "return input()", "return sys.stdin", "return x.stdout"),
    "L10": [
        "A = 1 # " + "a" * 113 + "\n", "def f():\n" + "    x = 1\n" * 40, "A = 1\n\n" + "# words\n" * 399,
        "def f():\n\treturn 1\n"],
    "L11": [
        in_function("try:", "    return d[x]", "except KeyError as e:", "    return str(e)"),
        in_function("for a in set(xs):", "    x = a"), in_function("return [a for a in {1, x}]"),
        in_function("for a in set(xs) - set(d):", "    x = a")],
    "L12": each_in_function(
        "_ = 1", "_hidden = 1", "x._kept = 1", "return f(_a=1)", "for _ in xs: pass", "return \u00e4") + [
        "def _f():\n    pass\n", in_class("def _m(self):", "    pass"), "class _A:\n    pass\n",
        "from stuckwire.errors import Wrong as _w\n", "def f(_a):\n    pass\n"],
    "L13": each_in_function("y = {1, 2, 3}", "return len({1, 2, 3})", "return [lambda a: a, lambda a: a + 1]"),
    "L14": [
        {"Sample.py": "A = 1\n"}, {"test.py": "A = 1\n"}, {"test_a.py": "A = 1\n"}, {"len.py": "A = 1\n"},
        {"site.py": "A = 1\n"}, {"typing.py": "A = 1\n"}, {"mydataclass.py": "A = 1\n"}, {"format.py": "A = 1\n"},
        "# \u00e4\n", "A = '\u00e4'\n", "A = 1\r\n", "A = 1 # \t\n"],
    "L15": [
        "A = 1\nA = 2\n", "A = 1\ndef A():\n    pass\n", FIRST + "Wrong = 1\n", "A = [[1]]\n", "A = {1: {}}\n",
        "A = ([1],)\n", in_function("class Inner:", "    pass")] + [
        "A = [1]\n" + sample for sample in each_in_function(
            "A.append(1)", "A[0] = 1", "return A", "f(A)", "x = A", "A.pop()", "x = [A]", "return A.append")] + [
        {"sample.py": "from stuckwire.other import A\n" + in_function("return A"), "other.py": "A = {1: 2}\n"},
        FIRST + in_function("Wrong = 1"), FIRST + "def f(Wrong):\n    pass\n", "def f(map):\n    pass\n",
        in_function("try:", "    return d[x]", "except KeyError as range:", "    pass"),
        "class A:\n    pass\ndef f(A):\n    pass\n", in_function("def filter():", "    pass")] + each_in_function(
        "id = 1", "hash = 1", "return lambda next: 1", "for sum in xs: pass", "return [max for max in xs]"),
    "L16": [
        "import stuckwire.errors\n", "from stuckwire.errors import Missing\n", "from stuckwire.missing import A\n",
        {"sample.py": "from stuckwire.other import Wrong\n", "other.py": FIRST},
        {"sample.py": "from stuckwire.other import B\nA = 1\n", "other.py": "from stuckwire.sample import A\nB = 1\n"},
        {"a.py": "from stuckwire.b import B\nA = 1\n", "b.py": "from stuckwire.c import C\nB = 1\n",
         "c.py": "from stuckwire.a import A\nC = 1\n"},
        {"sample.py": FIRST + "A = 1\n", "__init__.py": "from stuckwire.sample import A\n"},
        {"__init__.py": "errors = 1\n"}, {"__init__.py": "Wrong = 1\n"}],
    "L17": each_in_function(
        "return x.register", "return x.mro", "return x.elements", "return x.f_back", "return x.tb_next",
        "return x.co_names", "return open", "return input", "return type(x)", "return super()", "return id(x)",
        "return eval(x)", "return getattr(x, 'a')", "return vars(x)", "return os", "return sys", "return gc",
        "return dir(x)", "return exit()", "return __name__") + [
        "# a type of thing\n", "A = 'enum'\n", "# overloaded\n", "A = 'mydataclasses'\n", "# Flag\n",
        "# the ABC of it\n", "def add_note():\n    pass\n", "def f(vars):\n    pass\n"],
    "L18": [
        FIRST + sample for sample in each_in_function(
            "return Wrong", "x = Wrong", "xs = [Wrong]", "f(Wrong)", "Wrong.a = 1", "return Wrong.a", "x.y.z = 1",
            "return str(Wrong)")] + [
        "A = 1\n" + in_function("A.b = 1"), in_class("def m(self):", "    pass", "def m(self):", "    pass"),
        "class A:\n    def m(self):\n        pass\nclass B:\n    def __init__(self):\n        self.m = 1\n",
        "class A(StopIteration):\n    pass\n", "class A(AttributeError):\n    pass\n"],
    "L19": [
        in_function("try:", "    " + body, "except " + taken + ":", "    pass") for body, taken in (
            ("f()", "Exception"), ("f()", "TypeError"), ("f()", "RuntimeError"), ("f()", "ValueError"),
            ("x = int(f'{x}')", "ValueError"), ("x = int(xs[1:])", "ValueError"), ("x = int(x) * 2", "ValueError"),
            ("x = xs[f(x)]", "IndexError"), ("x = int(x)", "IndexError"), ("x = int(x) << 1", "ValueError"),
            ("x = len(x)", "LookupError"), ("f()", "(KeyError, ValueError)"), ("x = xs[lambda: 1]", "IndexError"))] + [
        in_function("try:", "    x = int(x)", "    f()", "except ValueError:", "    pass"),
        in_class("def __eq__(self, other):", "    return True") + in_function(
            "try:", "    x = int(x) == 1", "except ValueError:", "    pass"),
        in_function("raise ValueError('words')"), FIRST + in_function("raise Wrong"),
        FIRST + in_function("raise Wrong('words') from x"), FIRST + in_function("raise x"),
        FIRST + in_function("try:", "    f()", "except Wrong:", "    raise")],
    "L20": each_in_function("return x is xs", "return x is 1", "return x is not ''"),
    "L21": ["def f(a: int):\n    pass\n", "def f() -> int:\n    pass\n", "A: int = 1\n"] + each_in_function(
        "y: int", "y: int = 1", "x.y: int = 1", "xs[0]: int = 1"),
    "L22": each_in_function(
        "return isinstance(x, set)", "return isinstance(x, xs)", "return isinstance(x, (int, float))",
        "return isinstance(x, int | str)", "return [len]", "return f(sorted)", "y = len", "return sorted(xs, key=repr)",
        "return sorted(xs, key=d[x])", "return sorted(xs, reverse=x)", "return list(zip(xs, d, strict=x))",
        "return sum(xs, begin=1)", "return max(xs, start=1)", "return int(x, base=2)", "return dict(a=1)",
        "return x.split(sep='a')", "return ValueError(a=1)") + [FIRST + in_function("return Wrong(words=1)")],
    "L23": each_in_function(
        "y = zip(xs, xs)", "y = range(3)", "y = d.items()", "y = reversed(xs)", "y = enumerate(xs)",
        "y = x in range(3)", "y = x in d.keys()", "y = len(d.values())", "y = list(zip(xs, range(3)))",
        "y = min(range(3), 5)", "y = x.join(d.keys())", "y = list(reversed(range(3)))", "y = [range(3)]",
        "return range(3)") + [
        in_function("for a in xs:", "    " + line) for line in (
            "xs.append(a)", "xs[0] = a", "xs += [a]", "xs.pop()", "xs.remove(a)")] + [
        in_function("for k, a in enumerate(xs):", "    xs[k] = a"), in_function("for a in d.items():", "    d[a] = 1"),
        in_function("for a in reversed(xs):", "    xs.clear()"), in_function("for a, b in zip(d, xs):", "    xs.append(a)"),
        in_function("for a in x.xs:", "    if a:", "        x.xs.append(a)", "        return a")],
    "L24": each_in_function(
        "y = set()", "y = {1, x}", "return set(xs)", "y = set(xs) | set(d)", "f(set(xs))", "return set(xs) == xs",
        "return sorted(set(xs), reverse=True)", "y = frozenset(xs)", "return list(set(xs))", "set(xs).pop()",
        "return set(xs) < set(d)"),
    "L25": each_in_function(
        "xs.sort()", "x.encode()", "x.title()", "x.add(1)", "x.translate(d)", "x.casefold()", "x.to_bytes()",
        "x.isnumeric()", "x.swapcase()", "d.popitem()", "y = xs.append", "f(xs.append)", "return x.split") + [
        in_class("def own(self):", "    return 1", "def other(self):", "    return self.own")],
    "L26": [
        in_class("def " + name + "(self):", "    return 1") for name in ("sort", "title", "encode", "format", "union")] + [
        in_class("def __init__(self):", "    self." + name + " = 1") for name in (
            "items", "keys", "values", "pop", "update", "append", "sort", "args", "encode", "replace", "union", "real")],
    "L27": each_in_function(
        "return 2 ** x", "return x ** 65", "return x ** -1", "x **= x", "return chr(x)", "return f'{\"a\"}'") + [
        "A = 'a % b'\n", '"""Of 10 % of it."""\n', "A = '\\x41'\n", "A = '\\r'\n", "A = '\\u0041'\n", "A = '\\0'\n",
        "A = 1" + "0" * 900 + "\n"],
    "L28": [
        in_class("def __init__(self):", "    return None"), in_class("def __init__(self):", "    return 1"),
        in_class("def __len__(self):", "    return self.size"), in_class("def __repr__(self):", "    return self.words"),
        in_class("def __str__(self):", "    return 'a' + 'b'"), in_class("def __eq__(self, other):", "    self.a = 1"),
        in_class("def __eq__(self, other):", "    other.xs.append(1)"), in_class("def __len__(self):", "    x += 1"),
        FIRST + "class Own(Wrong):\n    def __init__(self, a):\n        Wrong.__init__(a)\n",
        FIRST + "class Own(Wrong):\n    def __init__(self, a):\n        a.__init__(self)\n"]}

# What the rules allow, and what is near to what they don't.
KEEPING = [
    '"""Words."""\n\nfrom __future__ import annotations\nfrom stuckwire.errors import Wrong\n\nMANY = 3\nLEAST = -1\n'
    + "NAMES = ('a', 'b')\nKNOWN = {'a': 1, 'b': (1, 2)}\nLISTED = [1, None, True]\n\n\n" + in_function(
        '"""Words."""', "y = [a for a in LISTED if a in KNOWN]", "if x is None or not x is True:", "    y.append(KNOWN['a'])",
        "elif x == MANY:", "    return sorted(y, key=len, reverse=True)", "while y:", "    y.pop()", "    continue",
        "y += [KNOWN.get(x), len(KNOWN), list(LISTED)]", "raise Wrong(f'{x} and {y!r}')"),
    "def f(a, b=1, c=None, e=(1, 'a')):\n    return [a, b, c, e]\n\n\nTABLE = {'f': f}\n",
    in_function("for k, a in enumerate(xs, start=1):", "    d[a] = k", "for a in list(d):", "    d.pop(a)",
                "for a, b in zip(xs, d, strict=True):", "    x = x + a", "    if x > 3:", "        break"),
    in_function("return [min(range(3)), sorted(d.items()), ' '.join(d.keys()), list(reversed(xs)), dict(zip(xs, xs))]"),
    in_function("return x in {1, 2, 3} or len(set(xs)) == 1 or set(xs) == set(d) or sorted(set(xs) - set(d)) == xs"),
    in_function("try:", "    y = d[x]", "except KeyError:", "    y = None", "else:", "    x = y", "return y"),
    in_function("try:", "    y = int(x)", "except ValueError:", "    y = xs[0]", "return y"),
    in_function("try:", "    y = xs[x]", "except IndexError:", "    y = 0", "return y"),
    FIRST + in_function("try:", "    y = asked(xs, d, x)", "except KeyError as e:", "    raise Wrong('words') from e"),
    FIRST + in_function("try:", "    y = asked(xs, d, x)", "except Wrong:", "    raise Wrong('words') from None"),
    FIRST + "class Own(Wrong):\n    def __init__(self, words, place):\n        Wrong.__init__(self, words)\n"
    + "        self.place = place\n        self.count = 1\n",
    in_class("def __init__(self, xs):", "    self.xs = list(xs)", "    self.xs[0] = 1", "def __len__(self):",
             "    return len(self.xs)", "def __repr__(self):", "    return f'{self!r}'", "def __str__(self):",
             "    return ' '.join(self.xs)", "def add(self, x):", "    self.xs.append(x)", "def told(self):",
             "    self.add(1)", "    return self.xs") + in_function("y = Kept(xs)", "return isinstance(y, (int, Kept))"),
    in_function("return sorted(xs, key=lambda a: (a, 1)) + [x ** 64, x << x, x // 2, x % 3, ~x, 'a\\n\\t\\\\']"),
    in_function("def inner(a):", "    b = a + x", "    return b", "return [inner(a) for a in xs]"),
    {"__main__.py": "import sys\n\n\ndef run():\n    print(sys.stdin.read())\n\n\n"
     + "if __name__ == '__main__':\n    run()\n"},
    {"sample.py": "from stuckwire.other import A\n" + in_function("return [a for a in A]"), "other.py": "A = [1]\n"},
    "A = 1 # " + "a" * 112 + "\n", "def f():\n" + "    x = 1\n" * 39, "A = 1\n" + "# words\n" * 399]


class Language(unittest.TestCase):

    def test_nothing_else_lies_in_the_folder(self):
        for path in FOLDER.rglob("*"):
            if "__pycache__" not in path.parts:
                self.assertTrue(path.is_file() and path.parent == FOLDER and path.suffix == ".py", path)

    def test_the_files_are_there(self):
        files = "__init__ errors circuits text faults alike lean rowing book lines desk".split()
        self.assertLessEqual({name + ".py" for name in files}, set(package_texts()))

    def test_every_file_keeps_every_rule(self):
        self.assertEqual(broken(package_texts()), [])


class Watching(unittest.TestCase):

    def texts(self, sample):
        return {**BESIDE, **(sample if isinstance(sample, dict) else {"sample.py": sample})}

    def test_each_rule_is_watched(self):
        self.assertEqual(list(RULES), [f"L{number}" for number in range(1, 29)])
        self.assertEqual(list(BREAKING), list(RULES))

    def test_what_breaks_a_rule_is_found(self):
        for rule, samples in BREAKING.items():
            for sample in samples:
                with self.subTest(rule=rule, sample=sample):
                    self.assertIn(rule, [found[0] for found in broken(self.texts(sample))])

    def test_what_keeps_the_rules_is_left_alone(self):
        for sample in KEEPING:
            with self.subTest(sample=sample):
                self.assertEqual(broken(self.texts(sample)), [])


class Depth(unittest.TestCase):

    def test_calls_do_not_go_deep(self):
        rows = [("not", 7)] + [("xor", 8 + k, k % 8) for k in range(59)]
        circuit = circuits.Circuit(8, rows, [67])
        fault = ("wire", 8, 1)
        limit = sys.getrecursionlimit()
        sys.setrecursionlimit(len(inspect.stack()) + 100)
        try:
            text.read(text.shown(circuit))
            self.assertEqual(faults.way_seen(circuit, fault, 128), list(range(8, 68)))
            alike.groups(circuit)
            alike.hard(circuit)
            alike.as_easy(circuit, fault, fault)
            lean.lean(circuit)
            lean.lean(naive.drawn(11, 8, 60, 16))
            rowing.tells_all(circuit, rowing.thinned(circuit))
            rowing.fewest(naive.drawn(11, 3, 60, 16))
            book.named(circuit, [0, 255] * 150, book.answers(circuit, [0, 255] * 150, fault))
            book.widened(circuit, [])
            asked = desk.Desk()
            asked.say("new " + " / ".join(text.shown(circuit)))
            for line in ("give 255", "stuck 8 1 0", "leg 9 0 1 0", "faults", "idle", "tells 8 1", "named 0 1", "lean"):
                asked.say(line)
        finally:
            sys.setrecursionlimit(limit)


if __name__ == "__main__":
    unittest.main()
