"""The package keeps to its part of Python: those rules of LANGUAGE.md that a look at the code can tell."""

import ast
import builtins
import pathlib
import re
import unittest

PACKAGE = pathlib.Path(__file__).resolve().parent.parent / "sixcells"

STATEMENTS = (ast.Module, ast.FunctionDef, ast.ClassDef, ast.ImportFrom, ast.Assign, ast.AugAssign, ast.If,
              ast.While, ast.For, ast.Return, ast.Break, ast.Continue, ast.Pass, ast.Raise, ast.Try,
              ast.ExceptHandler, ast.Expr, ast.alias)
EXPRESSIONS = (ast.Constant, ast.Name, ast.List, ast.Tuple, ast.Dict, ast.Set, ast.BinOp, ast.UnaryOp,
               ast.BoolOp, ast.Compare, ast.IfExp, ast.Call, ast.keyword, ast.Attribute, ast.Subscript,
               ast.Slice, ast.ListComp, ast.comprehension, ast.JoinedStr, ast.FormattedValue, ast.Lambda,
               ast.arguments, ast.arg, ast.expr_context, ast.operator, ast.unaryop, ast.boolop, ast.cmpop)

OWN_NAMES = set("""len range enumerate zip min max sum abs sorted reversed int str bool list tuple dict set frozenset
    isinstance ord repr any all divmod Exception ValueError TypeError KeyError IndexError LookupError
    ZeroDivisionError ArithmeticError OverflowError RuntimeError NotImplementedError AttributeError
    StopIteration""".split())
OWN_METHODS = set("""append clear copy count endswith extend find get index insert isalnum isalpha isdigit islower
    isspace isupper items join keys ljust lower lstrip partition pop remove replace reverse rfind rjust
    rpartition rsplit rstrip setdefault split splitlines startswith strip update upper values zfill bit_length
    add discard""".split())
UNDERSCORED = {"__init__", "__eq__", "__repr__", "__str__", "__len__", "__all__", "__version__"}
BARRED_WORDS = re.compile(r"\b(type|typing|typing_extensions|enum|Enum|IntEnum|StrEnum|Flag|IntFlag|Generic|Protocol"
                          r"|ABC|ABCMeta|namedtuple|NamedTuple|TypedDict|TYPE_CHECKING|abstractmethod)\b"
                          r"|dataclass|overload|contextmanager")
BARRED_NAMES = {"register", "mro", "elements", "open", "input", "version_info", "with_traceback", "add_note",
                "format", "format_map"}
PYTHONS_OWN = {name for kind in (str, int, list, tuple, dict, set, bytes) for name in vars(kind)}


def text_faults(source):
    """L10, L14, L17: what the bare text shows."""
    rows = source.split("\n")
    if len(rows) > 401:
        yield "L10 file too long"
    for row in rows:
        if len(row) > 120:
            yield "L10 row too long"
        if not all(" " <= sign <= "~" for sign in row):
            yield "L14 sign"
    if BARRED_WORDS.search(source):
        yield "L17 word"


def is_plain(value, functions):
    """L3: whether an expression is a plain value, as a file's top may give to a name."""
    if isinstance(value, (ast.List, ast.Tuple)):
        return all(is_plain(part, functions) for part in value.elts)
    if isinstance(value, ast.Dict):
        return all(is_plain(part, functions) for part in value.keys + value.values)
    if isinstance(value, ast.UnaryOp) and isinstance(value.op, ast.USub):
        value = value.operand
    return isinstance(value, ast.Constant) or isinstance(value, ast.Name) and value.id in functions


def top_faults(tree):
    """L2, L3, L15, L16: what stands at a file's top."""
    bound = []
    functions = []
    for node in tree.body:
        if isinstance(node, ast.FunctionDef):
            functions.append(node.name)
        if isinstance(node, ast.Assign) and not is_plain(node.value, functions):
            yield "L3 value"
        if isinstance(node, ast.ImportFrom):
            bound += [alias.asname or alias.name for alias in node.names]
        elif isinstance(node, (ast.FunctionDef, ast.ClassDef)):
            bound.append(node.name)
        elif isinstance(node, ast.Assign):
            bound += [target.id for target in node.targets if isinstance(target, ast.Name)]
        elif not (isinstance(node, ast.Expr) and isinstance(node.value, ast.Constant)):
            yield "L3 top"
    if len(bound) != len(set(bound)):
        yield "L15 bound twice"
    for node in ast.walk(tree):
        if isinstance(node, ast.ImportFrom):
            plain = node.level == 0 and node.module.startswith("sixcells.") and node in tree.body
            if not plain or node.names[0].name == "*":
                yield "L16 import"


def def_faults(node):
    """L4, L5, L10, L21: one def or class."""
    if node.decorator_list:
        yield "L4 decorator"
    if isinstance(node, ast.ClassDef):
        if len(node.bases) > 1 or node.keywords:
            yield "L5 bases"
        for part in node.body:
            if not isinstance(part, (ast.FunctionDef, ast.Expr, ast.Pass)):
                yield "L5 body"
        return
    if node.end_lineno - node.lineno >= 40:
        yield "L10 def too long"
    asked = node.args
    if asked.vararg or asked.kwarg or asked.kwonlyargs or asked.posonlyargs:
        yield "L4 parameters"
    if node.returns or any(arg.annotation for arg in asked.args):
        yield "L21 annotation"


def name_faults(name, bound):
    """L8, L12, L15, L17: one name, where it is read and where it is bound."""
    if name.startswith("_") and name not in UNDERSCORED:
        yield "L12 underscore"
    if name in BARRED_NAMES:
        yield "L17 name"
    if name in vars(builtins) and (bound or name not in OWN_NAMES):
        yield "L8 name of Python's own"


def expression_faults(node):
    """L6, L7, L20, L27: one statement or expression."""
    if not isinstance(node, STATEMENTS + EXPRESSIONS):
        yield "L6 L7 " + node.__class__.__name__
    if isinstance(node, (ast.Div, ast.MatMult)):
        yield "L7 /"
    if isinstance(node, ast.Constant) and not isinstance(node.value, (int, str, type(None))):
        yield "L7 value"
    if isinstance(node, ast.Assign) and len(node.targets) != 1:
        yield "L6 targets"
    if isinstance(node, (ast.For, ast.While)) and node.orelse:
        yield "L6 else"
    if isinstance(node, ast.Try) and node.finalbody:
        yield "L6 finally"
    if isinstance(node, ast.ListComp) and (len(node.generators) > 1 or len(node.generators[0].ifs) > 1):
        yield "L7 comprehension"
    if isinstance(node, ast.FormattedValue) and not isinstance(node.value, ast.Name):
        yield "L7 f-string"
    if isinstance(node, ast.BinOp) and isinstance(node.op, ast.Pow) and not isinstance(node.right, ast.Constant):
        yield "L27 exponent"
    if isinstance(node, ast.Constant) and isinstance(node.value, str) and "%" in node.value:
        yield "L27 sign"
    if isinstance(node, ast.Compare) and any(isinstance(op, (ast.Is, ast.IsNot)) for op in node.ops):
        if not (isinstance(node.comparators[0], ast.Constant) and node.comparators[0].value in (None, True, False)):
            yield "L20 is"


def node_faults(node):
    """The faults of one node of the code."""
    yield from expression_faults(node)
    if isinstance(node, (ast.FunctionDef, ast.ClassDef)):
        yield from def_faults(node)
        yield from name_faults(node.name, True)
    if isinstance(node, ast.Name):
        yield from name_faults(node.id, isinstance(node.ctx, ast.Store))
    if isinstance(node, ast.arg):
        yield from name_faults(node.arg, True)
    if isinstance(node, ast.Attribute):
        yield from name_faults(node.attr, False)
        if node.attr in PYTHONS_OWN and node.attr not in OWN_METHODS | UNDERSCORED:
            yield "L25 method"


def faults(source):
    """The sorted list of the rules that a file's text breaks."""
    tree = ast.parse(source)
    found = list(text_faults(source)) + list(top_faults(tree))
    for node in ast.walk(tree):
        found += node_faults(node)
    return sorted(set(found))


def drawn_from(path):
    """The names of the package's files that a file draws from."""
    tree = ast.parse(path.read_text())
    return [node.module.split(".")[1] for node in ast.walk(tree) if isinstance(node, ast.ImportFrom)]


class Language(unittest.TestCase):
    def test_files(self):
        names = [path.name for path in PACKAGE.iterdir() if path.name != "__pycache__"]
        self.assertIn("__init__.py", names)
        for name in names:
            self.assertRegex(name, r"^([a-z][a-z0-9_]*|__init__|__main__)\.py$")

    def test_every_file_keeps_to_the_rules(self):
        for path in sorted(PACKAGE.glob("*.py")):
            self.assertEqual(faults(path.read_text(encoding="utf-8")), [], path.name)

    def test_no_two_files_draw_from_one_another(self):
        drawn = {path.stem: drawn_from(path) for path in PACKAGE.glob("*.py")}
        while drawn:
            free = [name for name in drawn if not any(other in drawn for other in drawn[name])]
            self.assertTrue(free, drawn)
            for name in free:
                del drawn[name]

    def test_no_name_is_both_a_method_and_a_value(self):
        methods, values = set(), set()
        for path in PACKAGE.glob("*.py"):
            for node in ast.walk(ast.parse(path.read_text())):
                if isinstance(node, ast.ClassDef):
                    methods |= {part.name for part in node.body if isinstance(part, ast.FunctionDef)}
                if isinstance(node, ast.Attribute) and isinstance(node.ctx, ast.Store):
                    values.add(node.attr)
        self.assertEqual(methods & values, set())


class TheLookItself(unittest.TestCase):
    def test_code_outside_the_rules_is_seen(self):
        outside = ["import sys", "from os import path", "from .cells import plus", "from sixcells.cells import *",
                   "x = 1\nx = 2", "x = 1\ny = (x, 2)", "x = 1 + 1", "x = 1.5", "x = b'1'", "x = y = 1",
                   "print(1)", "def f(*a):\n    pass",
                   "def f(a, *, b):\n    pass", "def f(a: int):\n    pass", "def _f():\n    pass",
                   "def f(id):\n    pass", "def f(a):\n    return a / 2", "def f(a):\n    return 2 ** a",
                   "def f(a):\n    return a is f", "def f(a):\n    return {b for b in a}",
                   "def f(a):\n    yield a", "def f(a):\n    assert a", "def f(a):\n    a.sort()",
                   "def f(a):\n    return getattr(a, 'b')", "def f(a):\n    with a:\n        pass",
                   "def f(a):\n    return (a := 1)", "def f(a):\n    return f'{a + 1}'", "x = '100%'",
                   "class A:\n    b = 1", "class A(B, C):\n    pass", "# the type of it", "x = 1 #" + "-" * 120,
                   "x = '\u00e9'", "if True:\n\tx = 1", "def f():\n" + "    x = 1\n" * 40, "x = 1\n" * 401]
        for source in outside:
            self.assertNotEqual(faults(source), [], source)

    def test_code_within_the_rules_is_not(self):
        source = ('"""Words."""\n\nfrom sixcells.cells import plus\n\nX = ((1, -1), "a")\n\n\ndef f(a, b=1):\n'
                  '    c = [plus(d, d) for d in a if d is not None]\n    c.append(f"{b!r}")\n    return c\n')
        self.assertEqual(faults(source), [])


if __name__ == "__main__":
    unittest.main()
