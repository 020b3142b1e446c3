"""That the package keeps to the small part of the language: what can be seen in its rows, rule by rule."""

import ast
import builtins
import pathlib
import re
import unittest

ROOT = pathlib.Path(__file__).resolve().parent.parent
PACKAGE = ROOT / "paperbank"

STATEMENTS = (ast.Assign, ast.AugAssign, ast.If, ast.While, ast.For, ast.Return, ast.Break, ast.Continue, ast.Pass,
              ast.Raise, ast.Try, ast.Expr, ast.FunctionDef, ast.ClassDef, ast.ImportFrom)
EXPRESSIONS = (ast.Constant, ast.List, ast.Tuple, ast.Dict, ast.BinOp, ast.UnaryOp, ast.BoolOp, ast.Compare, ast.IfExp,
               ast.Call, ast.Attribute, ast.Subscript, ast.Slice, ast.ListComp, ast.JoinedStr, ast.FormattedValue,
               ast.Lambda, ast.Name)
OWN_NAMES = set(
    "len range enumerate zip min max sum abs sorted reversed int str bool list tuple dict set frozenset isinstance ord "
    "repr any all divmod Exception ValueError TypeError KeyError IndexError LookupError ZeroDivisionError "
    "ArithmeticError OverflowError RuntimeError NotImplementedError StopIteration".split())
METHODS = set(
    "append clear copy count endswith extend find get index insert isalnum isalpha isdigit islower isspace isupper "
    "items join keys ljust lower lstrip partition pop remove replace reverse rfind rjust rpartition rsplit rstrip "
    "setdefault split splitlines startswith strip update upper values zfill bit_length".split())
SPECIAL = {"__init__", "__eq__", "__repr__", "__str__", "__len__"}
LAZY = {"zip", "enumerate", "reversed", "range"}
LAZY_METHODS = {"items", "keys", "values"}
WALKERS = {"list", "tuple", "dict", "sorted", "sum", "any", "all", "enumerate", "zip", "min", "max"}
KEYWORDS = {"sorted": {"key", "reverse"}, "min": {"key", "default"}, "max": {"key", "default"}, "sum": {"start"},
            "enumerate": {"start"}, "zip": {"strict"}}
BANNED_WORDS = re.compile(
    r"\b(type|typing|typing_extensions|enum|Enum|IntEnum|StrEnum|Flag|IntFlag|Generic|Protocol|ABC|ABCMeta|namedtuple|"
    r"NamedTuple|TypedDict|TYPE_CHECKING|abstractmethod)\b|dataclass|overload|contextmanager")
BANNED_NAMES = set(
    "register mro elements open input version_info with_traceback add_note attrgetter breakpoint builtins compile "
    "copyright credits delattr dir eval exec exit gc getattr globals hasattr help id importlib license locals "
    "methodcaller os quit setattr super vars sys format format_map".split())
BUILT_IN_ATTRIBUTES = {name for kind in (str, int, list, dict, set, bytes) for name in vars(kind)}


def walk_with_parents(tree):
    parents = {}
    for node in ast.walk(tree):
        for child in ast.iter_child_nodes(node):
            parents[child] = node
    return parents


def rows_faults(source):
    faults = []
    for number, row in enumerate(source.split("\n"), 1):
        if len(row) > 120:
            faults.append(("L10", number))
        if any(not " " <= sign <= "~" for sign in row):
            faults.append(("L14", number))
        if BANNED_WORDS.search(row):
            faults.append(("L17", number))
    if source.count("\n") > 400:
        faults.append(("L10", 401))
    return faults


def plain(node, defined):
    if isinstance(node, (ast.Tuple, ast.List)):
        return all(plain(member, defined) for member in node.elts)
    if isinstance(node, ast.Dict):
        return all(plain(member, defined) for member in node.keys + node.values)
    if isinstance(node, ast.UnaryOp):
        return isinstance(node.op, ast.USub) and isinstance(node.operand, ast.Constant)
    if isinstance(node, ast.Name):
        return node.id in defined
    return isinstance(node, ast.Constant)


def top_faults(tree):
    faults = []
    defined = []
    for place, node in enumerate(tree.body):
        if isinstance(node, (ast.FunctionDef, ast.ClassDef)):
            defined.append(node.name)
        elif isinstance(node, ast.ImportFrom):
            if node.level or not node.module.startswith("paperbank.") or any(a.name == "*" for a in node.names):
                faults.append(("L2", node.lineno))
            defined.extend(alias.asname or alias.name for alias in node.names)
        elif isinstance(node, ast.Assign):
            functions = [n.name for n in tree.body[:place] if isinstance(n, ast.FunctionDef)]
            if not plain(node.value, functions):
                faults.append(("L3", node.lineno))
            defined.extend(target.id for target in node.targets)
        elif not (place == 0 and isinstance(node, ast.Expr) and isinstance(node.value, ast.Constant)):
            faults.append(("L3", node.lineno))
    if len(set(defined)) != len(defined):
        faults.append(("L15", 1))
    return faults


def kind_faults(node, parents):
    if isinstance(node, ast.stmt) and not isinstance(node, STATEMENTS):
        return ["L6"]
    if isinstance(node, ast.expr) and not isinstance(node, EXPRESSIONS):
        return ["L7"]
    if isinstance(node, ast.Expr) and not isinstance(node.value, ast.Call):
        return [] if isinstance(parents[node], ast.Module) else ["L6"]
    if isinstance(node, ast.Assign) and len(node.targets) != 1:
        return ["L6"]
    if isinstance(node, (ast.For, ast.While)) and node.orelse:
        return ["L6"]
    if isinstance(node, ast.BinOp) and isinstance(node.op, (ast.Div, ast.MatMult)):
        return ["L7"]
    if isinstance(node, ast.ListComp) and (len(node.generators) > 1 or len(node.generators[0].ifs) > 1):
        return ["L7"]
    if isinstance(node, ast.Constant) and not (node.value is None or isinstance(node.value, (int, str))):
        return ["L7"]
    if isinstance(node, ast.BinOp) and isinstance(node.op, ast.Pow) and not isinstance(node.right, ast.Constant):
        return ["L27"]
    if isinstance(node, ast.Constant) and isinstance(node.value, str) and "%" in node.value:
        return ["L27"]
    return []


def def_faults(node):
    faults = []
    if isinstance(node, (ast.FunctionDef, ast.ClassDef)) and node.decorator_list:
        faults.append("L4")
    if isinstance(node, ast.FunctionDef):
        given = node.args
        if given.vararg or given.kwarg or given.kwonlyargs or given.posonlyargs:
            faults.append("L4")
        if node.returns or any(arg.annotation for arg in given.args):
            faults.append("L21")
        if node.end_lineno - node.lineno + 1 > 40:
            faults.append("L10")
        if node.name.startswith("_") and node.name not in SPECIAL:
            faults.append("L12")
    if isinstance(node, ast.ClassDef):
        if any(not isinstance(member, ast.FunctionDef) for member in node.body) or len(node.bases) > 1:
            faults.append("L5")
    return faults


def name_faults(node, parents, taken):
    faults = []
    bound = None
    if isinstance(node, ast.Name):
        if isinstance(node.ctx, ast.Store):
            bound = node.id
        elif node.id in vars(builtins) and node.id not in OWN_NAMES:
            faults.append("L8")
        if node.id in BANNED_NAMES:
            faults.append("L17")
    if isinstance(node, ast.arg):
        bound = node.arg
    if bound is not None:
        if bound.startswith("_") or not bound.isascii():
            faults.append("L12")
        if bound in vars(builtins) or bound in taken:
            faults.append("L15")
    if isinstance(node, ast.Attribute):
        called = isinstance(parents[node], ast.Call) and parents[node].func is node
        if node.attr in BANNED_NAMES or node.attr.startswith("_"):
            faults.append("L17")
        if called and node.attr not in METHODS:
            faults.append("L25")
        if not called and node.attr in BUILT_IN_ATTRIBUTES:
            faults.append("L26")
    return faults


def walked_on_the_spot(node, parent):
    if isinstance(parent, (ast.For, ast.comprehension)):
        return parent.iter is node
    if isinstance(parent, ast.Call) and isinstance(parent.func, ast.Name):
        return parent.func.id in WALKERS and node in parent.args
    return isinstance(parent, ast.Call) and isinstance(parent.func, ast.Attribute) and parent.func.attr == "join"


def call_faults(node, parents):
    faults = []
    if isinstance(node, ast.Compare):
        for op, right in zip(node.ops, node.comparators):
            if isinstance(op, (ast.Is, ast.IsNot)) and not isinstance(right, ast.Constant):
                faults.append("L20")
    if not isinstance(node, ast.Call):
        return faults
    own = node.func.id if isinstance(node.func, ast.Name) else None
    method = node.func.attr if isinstance(node.func, ast.Attribute) else None
    if own in OWN_NAMES or method in METHODS:
        if any(word.arg not in KEYWORDS.get(own, ()) for word in node.keywords):
            faults.append("L22")
    if (own in LAZY or method in LAZY_METHODS) and not walked_on_the_spot(node, parents[node]):
        faults.append("L23")
    if own in ("set", "frozenset"):
        outer = parents[node]
        while isinstance(outer, ast.BinOp):
            outer = parents[outer]
        within = isinstance(outer, ast.Call) and isinstance(outer.func, ast.Name) and outer.func.id in ("len", "sorted")
        if not within and not isinstance(outer, ast.Compare):
            faults.append("L24")
    return faults


def faults_of(source):
    tree = ast.parse(source)
    parents = walk_with_parents(tree)
    taken = {alias.asname or alias.name for node in tree.body if isinstance(node, ast.ImportFrom)
             for alias in node.names}
    taken |= {node.name for node in tree.body if isinstance(node, ast.ClassDef)}
    faults = rows_faults(source) + top_faults(tree)
    for node in ast.walk(tree):
        found = kind_faults(node, parents) + def_faults(node) + name_faults(node, parents, taken)
        found += call_faults(node, parents)
        faults.extend((rule, getattr(node, "lineno", 0)) for rule in found)
    return faults


def drawn_from(path):
    tree = ast.parse(path.read_text())
    return [node.module.split(".")[1] for node in tree.body if isinstance(node, ast.ImportFrom)]


class Form(unittest.TestCase):
    def files(self):
        return sorted(path for path in PACKAGE.rglob("*") if path.is_file() and "__pycache__" not in path.parts)

    def test_files(self):
        for path in self.files():
            self.assertRegex(str(path.relative_to(PACKAGE)), r"\A([a-z][a-z0-9_]*|__init__)\.py\Z")
            self.assertNotIn(path.stem, vars(builtins))
        self.assertIn(PACKAGE / "__init__.py", self.files())

    def test_rows(self):
        for path in self.files():
            self.assertEqual(faults_of(path.read_text(encoding="utf-8")), [], path.name)

    def test_no_two_files_draw_from_one_another(self):
        left = {path.stem: drawn_from(path) for path in self.files()}
        self.assertEqual(left["__init__"], [])
        while left:
            free = [name for name, drawn in left.items() if not any(other in left for other in drawn)]
            self.assertTrue(free, left)
            left = {name: drawn for name, drawn in left.items() if name not in free}

    def test_the_checks_see_what_they_should(self):
        for rule, source in (
                ("L2", "from os.path import join\n"), ("L3", "A = len('a')\n"), ("L3", "print(1)\n"),
                ("L4", "def f(*a):\n    return 1\n"), ("L5", "class A:\n    b = 1\n"),
                ("L6", "def f(a):\n    assert a\n"), ("L6", "def f(a):\n    b = c = a\n"),
                ("L6", "def f(a):\n    'words'\n"), ("L7", "def f(a):\n    return a / 2\n"),
                ("L7", "def f(a):\n    return 1.5\n"), ("L7", "def f(a):\n    return any(b for b in a)\n"),
                ("L8", "def f(a):\n    return chr(a)\n"), ("L10", "A = '" + "a" * 120 + "'\n"),
                ("L12", "def f(a):\n    return [1 for _ in a]\n"), ("L14", "A = '\u00e9'\n"),
                ("L15", "def f(hash):\n    return 1\n"), ("L15", "class A:\n    def b(self, A):\n        return 1\n"),
                ("L17", "# a type\n"), ("L17", "def f(a):\n    return a.mro\n"),
                ("L20", "def f(a, b):\n    return a is b\n"), ("L21", "def f(a: int):\n    return a\n"),
                ("L22", "def f(a):\n    return a.split(sep='b')\n"), ("L23", "def f(a):\n    return zip(a, a)\n"),
                ("L24", "def f(a):\n    return set(a)\n"), ("L25", "def f(a):\n    return a.sort()\n"),
                ("L26", "def f(a):\n    a.values = 1\n"), ("L27", "def f(a):\n    return 2 ** a\n")):
            self.assertIn(rule, [fault[0] for fault in faults_of(source)], source)


if __name__ == "__main__":
    unittest.main()
