"""Whether the package keeps to the rules L1 to L28 of the part of Python it is written in, as far as a script sees."""

import ast
import builtins
import io
import keyword
import os
import re
import tokenize
import unittest

TOP = os.path.dirname(os.path.dirname(os.path.abspath(__file__)))
PACKAGE = "edgemoss"

ERRORS = set(
    "Exception ValueError TypeError KeyError IndexError LookupError ZeroDivisionError ArithmeticError OverflowError "
    "RuntimeError NotImplementedError AttributeError StopIteration".split()
)
OWN_OF_PYTHON = ERRORS | set(
    "len range enumerate zip min max sum abs sorted reversed int str bool list tuple dict set frozenset isinstance "
    "ord repr any all divmod".split()
)
METHODS = set(
    "append clear copy count endswith extend find get index insert isalnum isalpha isdigit islower isspace isupper "
    "items join keys ljust lower lstrip partition pop remove replace reverse rfind rjust rpartition rsplit rstrip "
    "setdefault split splitlines startswith strip update upper values zfill bit_length".split()
)
CHANGES = set("append clear extend insert pop remove reverse setdefault update".split())
TWO_UNDERSCORES = ("__init__", "__eq__", "__repr__", "__str__", "__len__")
NOWHERE = set("register mro elements open input version_info with_traceback add_note format format_map".split())
NO_NAMES = set(
    "attrgetter breakpoint builtins compile copyright credits delattr dir eval exec exit gc getattr globals hasattr "
    "help id importlib license locals methodcaller os quit setattr super type vars sys print chr".split()
)
NO_WORDS = re.compile(
    r"\b(type|typing|typing_extensions|enum|Enum|IntEnum|StrEnum|Flag|IntFlag|Generic|Protocol|ABC|ABCMeta|namedtuple"
    r"|NamedTuple|TypedDict|TYPE_CHECKING|abstractmethod)\b|dataclass|overload|contextmanager"
)
NO_FILES = re.compile(r"(tests?|testing|test_.*|site|conftest|sitecustomize|usercustomize)$")
STATEMENTS = (
    ast.FunctionDef, ast.ClassDef, ast.Import, ast.ImportFrom, ast.Assign, ast.AugAssign, ast.If, ast.While, ast.For,
    ast.Return, ast.Break, ast.Continue, ast.Pass, ast.Raise, ast.Try, ast.Expr,
)
EXPRESSIONS = (
    ast.Constant, ast.List, ast.Tuple, ast.Dict, ast.Set, ast.BinOp, ast.UnaryOp, ast.BoolOp, ast.Compare, ast.IfExp,
    ast.Call, ast.Attribute, ast.Subscript, ast.Slice, ast.ListComp, ast.JoinedStr, ast.FormattedValue, ast.Lambda,
    ast.Name,
)
WALKED = set("zip enumerate reversed range items keys values".split())
WALKERS = set("list tuple dict sorted sum any all enumerate zip min max".split())
OF_VALUES = set().union(*[dir(kind) for kind in (str, int, list, dict, set, bytes, tuple, bool)])
VALUE_NAMES = set("count index title find get join lower upper split strip copy add".split())
KEYWORDS = {
    "sorted": {"key", "reverse"}, "min": {"key", "default"}, "max": {"key", "default"},
    "sum": {"start"}, "enumerate": {"start"}, "zip": {"strict"},
}


def is_plain(node, functions):
    """A plain value of a file's top: L3, and L15's no list or dict within one."""
    if isinstance(node, ast.Constant):
        return isinstance(node.value, (bool, int, str)) or node.value is None
    if isinstance(node, ast.Name):
        return node.id in functions
    if isinstance(node, (ast.Tuple, ast.List)):
        parts = node.elts
    elif isinstance(node, ast.Dict):
        parts = node.keys + node.values
    else:
        return False
    return all(is_plain(part, functions) and not isinstance(part, (ast.List, ast.Dict)) for part in parts)


def called(node):
    """The bare name that is called here, or None."""
    if isinstance(node, ast.Call) and isinstance(node.func, ast.Name):
        return node.func.id
    return None


def called_method(node):
    if isinstance(node, ast.Call) and isinstance(node.func, ast.Attribute):
        return node.func.attr
    return None


class Checked:
    """The faults of one file: a list of (rule, line); own_methods are those of the package's other files."""

    def __init__(self, name, text, own_methods):
        self.name = name
        self.text = text
        self.faults = []
        self.tree = ast.parse(text)
        self.own_methods = methods_of(self.tree) | own_methods
        self.parents = {}
        for node in ast.walk(self.tree):
            for child in ast.iter_child_nodes(node):
                self.parents[child] = node
        self.functions = [n.name for n in self.tree.body if isinstance(n, ast.FunctionDef)]
        self.classes = [n.name for n in self.tree.body if isinstance(n, ast.ClassDef)]
        self.imports = [a.name for n in self.tree.body if isinstance(n, ast.ImportFrom) for a in n.names]
        self.values = [
            n.targets[0].id for n in self.tree.body if isinstance(n, ast.Assign) and isinstance(n.targets[0], ast.Name)
        ]
        self.check_text()
        self.check_top()
        for node in ast.walk(self.tree):
            self.check_node(node)

    def fault(self, rule, node):
        self.faults.append((rule, getattr(node, "lineno", 1)))

    def check_text(self):
        rows = self.text.split("\n")
        if len(rows) - 1 > 400 or any(len(row) > 120 for row in rows):
            self.fault("L10", None)
        if any(not " " <= sign <= "~" and sign != "\n" for sign in self.text):
            self.fault("L14", None)
        if NO_WORDS.search(self.text):
            self.fault("L17", None)
        for token in tokenize.generate_tokens(io.StringIO(self.text).readline):
            if token.type == tokenize.STRING and re.search(r"\\[^nt\\'\"]", token.string):
                self.faults.append(("L27", token.start[0]))

    def check_top(self):
        bound = self.functions + self.classes + self.imports + self.values
        if len(set(bound)) != len(bound):
            self.fault("L15", None)
        seen = []
        for place, node in enumerate(self.tree.body):
            if isinstance(node, ast.FunctionDef):
                seen.append(node.name)
            elif isinstance(node, ast.Assign):
                if not is_plain(node.value, seen):
                    self.fault("L3", node)
            elif isinstance(node, ast.Expr):
                if place > 0 or not isinstance(node.value, ast.Constant):
                    self.fault("L3", node)
            elif not isinstance(node, (ast.ImportFrom, ast.ClassDef)):
                self.fault("L2" if isinstance(node, ast.Import) else "L3", node)

    def check_node(self, node):
        if isinstance(node, ast.stmt) and not isinstance(node, STATEMENTS):
            self.fault("L6", node)
        if isinstance(node, ast.expr) and not isinstance(node, EXPRESSIONS):
            self.fault("L7", node)
        method = getattr(self, "see_" + type(node).__name__.lower(), None)
        if method is not None:
            method(node)

    def see_importfrom(self, node):
        if node.level or not re.match(PACKAGE + r"(\.[a-z0-9_]+)*$", node.module or ""):
            self.fault("L2", node)
        if any(alias.name == "*" or alias.asname for alias in node.names):
            self.fault("L2", node)
        if self.parents[node] is not self.tree:
            self.fault("L2", node)

    def see_import(self, node):
        self.fault("L16", node)

    def see_functiondef(self, node):
        self.check_name(node.name, node, isinstance(self.parents[node], ast.ClassDef))
        if node.decorator_list:
            self.fault("L4", node)
        if node.returns is not None:
            self.fault("L21", node)
        if node.end_lineno - node.lineno + 1 > 40:
            self.fault("L10", node)
        # A text by itself is none of the statements that L6 lists; L3 has it at a file's top alone.
        if ast.get_docstring(node) is not None:
            self.fault("L6", node)
        if node.name == "__init__":
            if any(isinstance(inner, ast.Return) and inner.value is not None for inner in ast.walk(node)):
                self.fault("L28", node)
        elif node.name in TWO_UNDERSCORES and any(isinstance(inner, ast.AugAssign) for inner in ast.walk(node)):
            self.fault("L28", node)

    def see_arguments(self, node):
        if node.vararg or node.kwarg or node.kwonlyargs or node.posonlyargs:
            self.fault("L4", self.parents[node])
        for default in node.defaults:
            if not is_plain(default, []) or isinstance(default, (ast.List, ast.Dict)):
                self.fault("L4", default)
        for argument in node.args:
            self.check_local(argument.arg, argument)
            if argument.annotation is not None:
                self.fault("L21", argument)

    def see_classdef(self, node):
        if node.decorator_list or node.keywords or len(node.bases) > 1:
            self.fault("L5", node)
        if self.parents[node] is not self.tree:
            self.fault("L15", node)
        for base in node.bases:
            if isinstance(base, ast.Name) and base.id in ("StopIteration", "AttributeError"):
                self.fault("L18", node)
        if any(not isinstance(part, (ast.FunctionDef, ast.Pass)) for part in node.body):
            self.fault("L5", node)
        names = [part.name for part in node.body if isinstance(part, ast.FunctionDef)]
        if len(set(names)) != len(names):
            self.fault("L18", node)
        if any(name in OF_VALUES - METHODS - {"add", "discard"} - set(TWO_UNDERSCORES) for name in names):
            self.fault("L26", node)

    def check_name(self, name, node, is_method=False):
        if name in TWO_UNDERSCORES and is_method:
            return
        if name.startswith("__") and name not in ("__all__", "__version__"):
            self.fault("L8", node)
        elif not re.match(r"[A-Za-z][A-Za-z0-9_]*$", name):
            self.fault("L12", node)
        if name in NOWHERE:
            self.fault("L17", node)

    def check_local(self, name, node):
        self.check_name(name, node)
        if name in self.classes + self.imports or hasattr(builtins, name):
            self.fault("L15", node)

    def see_assign(self, node):
        if len(node.targets) != 1:
            self.fault("L6", node)

    def see_annassign(self, node):
        self.fault("L21", node)

    def see_for(self, node):
        if node.orelse:
            self.fault("L6", node)
        walked = ast.unparse(node.iter)
        for inner in ast.walk(node):
            if called_method(inner) in CHANGES and ast.unparse(inner.func.value) in walked:
                self.fault("L23", inner)
            if isinstance(inner, ast.Subscript) and isinstance(inner.ctx, ast.Store):
                if ast.unparse(inner.value) == walked:
                    self.fault("L23", inner)

    def see_while(self, node):
        if node.orelse:
            self.fault("L6", node)

    def see_try(self, node):
        if node.finalbody:
            self.fault("L6", node)

    def see_excepthandler(self, node):
        names = [part.id for part in ast.walk(node.type) if isinstance(part, ast.Name)] if node.type else []
        if not names or "Exception" in names or "TypeError" in names:
            self.fault("L19", node)
        if node.name:
            self.check_local(node.name, node)

    def see_raise(self, node):
        if not isinstance(node.exc, ast.Call):
            self.fault("L19", node)

    def see_expr(self, node):
        is_docstring = self.parents[node] is self.tree and node is self.tree.body[0]
        if not isinstance(node.value, ast.Call) and not is_docstring:
            self.fault("L6", node)

    def see_constant(self, node):
        if isinstance(node.value, (float, complex, bytes)) or node.value is ...:
            self.fault("L7", node)
        if isinstance(node.value, str) and "%" in node.value:
            self.fault("L27", node)
        if type(node.value) is int and abs(node.value) >= 10 ** 900:
            self.fault("L27", node)

    def see_set(self, node):
        if len(node.elts) > 2:
            self.fault("L13", node)

    def see_binop(self, node):
        if isinstance(node.op, (ast.Div, ast.MatMult)):
            self.fault("L7", node)
        if isinstance(node.op, ast.Pow):
            exponent = node.right.value if isinstance(node.right, ast.Constant) else None
            if type(exponent) is not int or not 0 <= exponent <= 64:
                self.fault("L27", node)

    def see_augassign(self, node):
        if isinstance(node.op, (ast.Div, ast.MatMult)):
            self.fault("L7", node)

    def see_listcomp(self, node):
        if len(node.generators) > 1 or len(node.generators[0].ifs) > 1:
            self.fault("L7", node)

    def see_formattedvalue(self, node):
        if not isinstance(node.value, ast.Name) or node.format_spec or node.conversion not in (-1, ord("r")):
            self.fault("L7", node)

    def see_compare(self, node):
        parts = [node.left] + node.comparators
        for place, sign in enumerate(node.ops):
            if isinstance(sign, (ast.Is, ast.IsNot)):
                beside = parts[place + 1]
                if not isinstance(beside, ast.Constant) or beside.value not in (None, True, False):
                    self.fault("L20", node)

    def see_name(self, node):
        if isinstance(node.ctx, ast.Load):
            self.check_read(node)
        elif self.parents[node] in self.tree.body:
            self.check_name(node.id, node)
        else:
            self.check_local(node.id, node)

    def is_class(self, name):
        return name in self.classes or name in self.imports and re.match(r"[A-Z][A-Za-z]*[a-z]", name) is not None

    def check_class(self, node):
        """A class is called, is a base, or stands by isinstance, except or raise."""
        around = self.parents[node]
        if isinstance(around, ast.Tuple):
            around = self.parents[around]
        is_call = isinstance(around, ast.Call) and (around.func is node or called(around) == "isinstance")
        is_init = isinstance(around, ast.Attribute) and around.attr == "__init__"
        if not is_call and not is_init and not isinstance(around, (ast.ClassDef, ast.ExceptHandler)):
            self.fault("L18", node)

    def check_read(self, node):
        if self.is_class(node.id):
            self.check_class(node)
        known = OWN_OF_PYTHON | set(self.functions + self.classes + self.imports + self.values)
        if node.id in NO_NAMES:
            self.fault("L17", node)
        elif hasattr(builtins, node.id) and node.id not in known:
            self.fault("L8", node)
        parent = self.parents[node]
        if node.id in OWN_OF_PYTHON - ERRORS and not (isinstance(parent, ast.Call) and parent.func is node):
            beside = parent if isinstance(parent, ast.Call) else self.parents[parent]
            is_key = isinstance(parent, ast.keyword) and parent.arg == "key"
            if called(beside) != "isinstance" and not is_key:
                self.fault("L22", node)

    def see_attribute(self, node):
        if node.attr in NOWHERE:
            self.fault("L17", node)
        if node.attr.startswith("_") and node.attr != "__init__":
            self.fault("L8", node)
        around = self.parents[node]
        is_called = isinstance(around, ast.Call) and around.func is node
        is_key = isinstance(around, ast.keyword) and around.arg == "key"
        if isinstance(node.ctx, ast.Store):
            if node.attr in OF_VALUES - VALUE_NAMES:
                self.fault("L26", node)
            if not isinstance(node.value, ast.Name) or self.is_class(node.value.id):
                self.fault("L18", node)
        elif node.attr in METHODS | self.own_methods and not is_called and not is_key:
            self.fault("L25", node)

    def see_call(self, node):
        name, method = called(node), called_method(node)
        if name in OWN_OF_PYTHON and {word.arg for word in node.keywords} - KEYWORDS.get(name, set()):
            self.fault("L22", node)
        if any(isinstance(part, ast.Starred) for part in node.args) or any(w.arg is None for w in node.keywords):
            self.fault("L7", node)
        if method is not None and method not in METHODS | self.own_methods | {"__init__"}:
            self.fault("L25", node)
        if name in ("set", "frozenset"):
            self.check_set_call(node)
        if name in WALKED or method in ("items", "keys", "values"):
            self.check_walked(node)

    def check_set_call(self, node):
        around = self.parents[node]
        while isinstance(around, ast.BinOp) and isinstance(around.op, (ast.Sub, ast.BitAnd, ast.BitOr, ast.BitXor)):
            around = self.parents[around]
        if isinstance(around, ast.Compare):
            return
        if called(around) not in ("sorted", "len") or around.keywords:
            self.fault("L24", node)

    def check_walked(self, node):
        around = self.parents[node]
        if isinstance(around, (ast.For, ast.comprehension)) and around.iter is node:
            return
        if called(around) in WALKERS or called_method(around) == "join":
            return
        self.fault("L23", node)


def file_faults(name, text, own_methods=frozenset()):
    return Checked(name, text, own_methods).faults


def drawn(tree):
    """What a file draws from: the rows that do so."""
    return [node for node in ast.walk(tree) if isinstance(node, ast.ImportFrom)]


def bound_at_top(tree):
    names = {node.name for node in tree.body if isinstance(node, (ast.FunctionDef, ast.ClassDef))}
    return names | {node.targets[0].id for node in tree.body if isinstance(node, ast.Assign)}


def methods_of(tree):
    classes = [node for node in ast.walk(tree) if isinstance(node, ast.ClassDef)]
    return {part.name for node in classes for part in node.body if isinstance(part, ast.FunctionDef)}


def values_of(tree):
    nodes = [node for node in ast.walk(tree) if isinstance(node, ast.Attribute)]
    return {node.attr for node in nodes if isinstance(node.ctx, ast.Store)}


def reached_from(trees, name):
    """All modules that a module draws from, in however many steps; the package itself lies above each of them."""
    reached, todo = set(), [name]
    while todo:
        here = todo.pop()
        above = {PACKAGE} if here != PACKAGE else set()
        fresh = ({node.module for node in drawn(trees[here])} | above) & set(trees) - reached
        reached |= fresh
        todo.extend(fresh)
    return reached


def package_faults(sources):
    """The faults that only several files show; sources has a text for each module's full name."""
    faults = []
    trees = {name: ast.parse(text) for name, text in sources.items()}
    for name, tree in trees.items():
        for node in drawn(tree):
            defined = bound_at_top(trees[node.module]) if node.module in trees else set()
            if any(alias.name not in defined for alias in node.names):
                faults.append(("L16", name))
        if name in reached_from(trees, name):
            faults.append(("L16", name))
    if set().union(*map(methods_of, trees.values())) & set().union(*map(values_of, trees.values())):
        faults.append(("L18", ""))
    return faults


def package_files():
    folder = os.path.join(TOP, PACKAGE)
    return folder, sorted(name for name in os.listdir(folder) if name != "__pycache__")


def read_sources():
    folder, names = package_files()
    sources = {}
    for name in names:
        with open(os.path.join(folder, name), encoding="utf-8", newline="") as file:
            module = PACKAGE if name == "__init__.py" else PACKAGE + "." + name[:-3]
            sources[module] = file.read()
    return sources


SPOILT = [
    ("L2", "import edgemoss.errors\n"),
    ("L2", "from os import path\n"),
    ("L2", "from .errors import BadCell\n"),
    ("L2", "from edgemoss.errors import *\n"),
    ("L2", "def f():\n    from edgemoss.errors import BadCell\n    return BadCell(1)\n"),
    ("L16", "import edgemoss\n"),
    ("L3", "X = len('ab')\n"),
    ("L3", "X = []\nX.append(1)\n"),
    ("L3", "X = [[1], [2]]\n"),
    ("L3", "if True:\n    X = 1\n"),
    ("L4", "def f(*rows):\n    return rows\n"),
    ("L4", "def f(**rows):\n    return rows\n"),
    ("L4", "def f(*, row):\n    return row\n"),
    ("L4", "def f(row=[]):\n    return row\n"),
    ("L5", "class A:\n    x = 1\n"),
    ("L5", "class A(B, C):\n    pass\n"),
    ("L6", "def f(x):\n    assert x\n"),
    ("L6", "def f(x):\n    with x:\n        pass\n"),
    ("L6", "def f(x):\n    y = z = x\n    return y + z\n"),
    ("L6", "def f(x):\n    for y in x:\n        pass\n    else:\n        pass\n"),
    ("L6", "def f(x):\n    'Says what it is.'\n    return x\n"),
    ("L6", "def f(x):\n    x + 1\n"),
    ("L6", "def f(x):\n    try:\n        g(x)\n    finally:\n        g(x)\n"),
    ("L7", "def f(x):\n    return x / 2\n"),
    ("L7", "def f(x):\n    return 0.5\n"),
    ("L7", "def f(x):\n    return b'ab'\n"),
    ("L7", "def f(x):\n    return {y for y in x}\n"),
    ("L7", "def f(x):\n    return sum(y for y in x)\n"),
    ("L7", "def f(x):\n    return [y for z in x for y in z]\n"),
    ("L7", "def f(x):\n    return [*x]\n"),
    ("L7", "def f(x):\n    return f'{x + 1}'\n"),
    ("L7", "def f(x):\n    return (y := x)\n"),
    ("L8", "def f(x):\n    return hash(x)\n"),
    ("L8", "def __f(x):\n    return x\n"),
    ("L8", "def f(x):\n    return x.__dict__\n"),
    ("L10", "def f(x):\n" + "    x = x + 1\n" * 40),
    ("L10", "# " + "-" * 119 + "\n"),
    ("L10", "# a row\n" * 401),
    ("L12", "def f(x):\n    for _ in x:\n        pass\n"),
    ("L12", "def _f(x):\n    return x\n"),
    ("L13", "def f(x):\n    return len({1, 2, 3})\n"),
    ("L14", "# caf\u00e9\n"),
    ("L14", "# a\ttab\n"),
    ("L15", "def f(x):\n    return x\n\n\ndef f(y):\n    return y\n"),
    ("L15", "def f(min):\n    return min\n"),
    ("L15", "from edgemoss.shapes import has\n\n\ndef f(x):\n    has = x\n    return has\n"),
    ("L17", "def f(x):\n    return type(x)\n"),
    ("L17", "# the type of it\n"),
    ("L17", "def f(x):\n    return getattr(x, 'a')\n"),
    ("L17", "def f(x):\n    return x.elements\n"),
    ("L18", "class A(AttributeError):\n    pass\n"),
    ("L18", "class A:\n    def f(self):\n        pass\n\n    def f(self):\n        pass\n"),
    ("L18", "class A:\n    pass\n\n\ndef f(x):\n    return [A]\n"),
    ("L18", "from edgemoss.plans import Keep\n\n\ndef f(x):\n    return Keep\n"),
    ("L18", "class A:\n    pass\n\n\ndef f(x):\n    A.y = x\n"),
    ("L19", "def f(x):\n    try:\n        return x[0]\n    except Exception:\n        return 1\n"),
    ("L19", "def f(x):\n    try:\n        return x[0]\n    except TypeError:\n        return 1\n"),
    ("L19", "def f(x):\n    raise x\n"),
    ("L20", "def f(x):\n    return x is 3\n"),
    ("L21", "def f(x: int):\n    return x\n"),
    ("L21", "def f(x) -> int:\n    return x\n"),
    ("L21", "def f(x):\n    y: int = x\n    return y\n"),
    ("L22", "def f(x):\n    y = len\n    return y(x)\n"),
    ("L22", "def f(x):\n    return int(x, base=10)\n"),
    ("L23", "def f(x):\n    y = zip(x, x)\n    return list(y)\n"),
    ("L23", "def f(x):\n    return x.items()\n"),
    ("L23", "def f(x):\n    for y in x:\n        x.append(y)\n"),
    ("L23", "def f(x):\n    for y in x:\n        x[y] = 1\n"),
    ("L24", "def f(x):\n    y = set(x)\n    return y\n"),
    ("L24", "def f(x):\n    for y in set(x):\n        return y\n"),
    ("L24", "def f(x):\n    return sorted(set(x), reverse=True)\n"),
    ("L25", "def f(x):\n    return x.sort()\n"),
    ("L25", "def f(x):\n    return x.words()\n"),
    ("L25", "def f(x):\n    y = x.append\n    return y(1)\n"),
    ("L25", "class A:\n    def f(self):\n        return self.f\n"),
    ("L26", "class A:\n    def sort(self):\n        return 1\n"),
    ("L26", "class A:\n    def __init__(self):\n        self.items = 1\n"),
    ("L27", "def f(x):\n    return 2 ** x\n"),
    ("L27", "def f(x):\n    return 'a % b'\n"),
    ("L27", "def f(x):\n    return '\\x41'\n"),
    ("L28", "class A:\n    def __init__(self):\n        return None\n"),
]


class Language(unittest.TestCase):

    def test_the_package_keeps_to_the_rules(self):
        sources = read_sources()
        own_methods = set().union(*[methods_of(ast.parse(text)) for text in sources.values()])
        for name, text in sources.items():
            self.assertEqual(file_faults(name, text, own_methods), [], name)

    def test_the_files_keep_to_the_rules_together(self):
        self.assertEqual(package_faults(read_sources()), [])

    def test_the_folder(self):
        """L1, L14"""
        names = package_files()[1]
        self.assertIn("__init__.py", names)
        for name in names:
            self.assertRegex(name, r"^([a-z][a-z0-9_]*|__init__|__main__)\.py$")
            plain = name[:-3]
            self.assertFalse(NO_FILES.match(plain) or NO_WORDS.search(plain) or keyword.iskeyword(plain), name)
            self.assertFalse(hasattr(builtins, plain) and not plain.startswith("__"), name)

    def test_spoilt_files_are_seen(self):
        for rule, text in SPOILT:
            self.assertIn(rule, [fault[0] for fault in file_faults("spoilt", text)], text)

    def test_a_ring_of_files_is_seen(self):
        one = "from edgemoss.b import g\nf = 1\n"
        other = "from edgemoss.a import f\ng = 1\n"
        faults = package_faults({"edgemoss": "", "edgemoss.a": one, "edgemoss.b": other})
        self.assertEqual(faults, [("L16", "edgemoss.a"), ("L16", "edgemoss.b")])

    def test_a_ring_by_way_of_the_package_is_seen(self):
        faults = package_faults({"edgemoss": "from edgemoss.a import f\n", "edgemoss.a": "f = 1\n"})
        self.assertEqual(faults, [("L16", "edgemoss"), ("L16", "edgemoss.a")])

    def test_a_name_drawn_from_elsewhere_is_seen(self):
        sources = {"edgemoss": "", "edgemoss.a": "from edgemoss.b import g\n", "edgemoss.b": "h = 1\n"}
        self.assertIn(("L16", "edgemoss.a"), package_faults(sources))

    def test_a_name_both_method_and_value_is_seen(self):
        one = "class A:\n    def place(self):\n        return 1\n"
        other = "class B:\n    def __init__(self):\n        self.place = 1\n"
        self.assertIn(("L18", ""), package_faults({"edgemoss": "", "edgemoss.a": one, "edgemoss.b": other}))


if __name__ == "__main__":
    unittest.main()
