"""The package's files keep to the rules of LANGUAGE.md, as far as a walk over the syntax can tell."""

import ast
import builtins
import pathlib
import re
import unittest

PACKAGE = pathlib.Path(__file__).resolve().parent.parent / "postmeters"
OWN_NAMES = set(
    "len range enumerate zip min max sum abs sorted reversed int str bool list tuple dict set frozenset isinstance ord "
    "repr any all divmod Exception ValueError TypeError KeyError IndexError LookupError ZeroDivisionError "
    "ArithmeticError OverflowError RuntimeError NotImplementedError AttributeError StopIteration".split()
)
METHODS = set(
    "append clear copy count endswith extend find get index insert isalnum isalpha isdigit islower isspace isupper items "
    "join keys ljust lower lstrip partition pop remove replace reverse rfind rjust rpartition rsplit rstrip setdefault "
    "split splitlines startswith strip update upper values zfill bit_length".split()
)
CHANGES = set("append clear extend insert pop remove reverse setdefault update".split())
DUNDERS = {"__init__", "__eq__", "__repr__", "__str__", "__len__"}
NOT_NAMES = set(
    "register mro elements open input version_info with_traceback add_note attrgetter breakpoint builtins compile "
    "copyright credits delattr dir eval exec exit gc getattr globals hasattr help id importlib license locals "
    "methodcaller os quit setattr super type vars sys format format_map".split()
)
NOT_WORDS = re.compile(
    r"\b(type|typing|typing_extensions|enum|Enum|IntEnum|StrEnum|Flag|IntFlag|Generic|Protocol|ABC|ABCMeta|namedtuple|"
    r"NamedTuple|TypedDict|TYPE_CHECKING|abstractmethod)\b|dataclass|overload|contextmanager"
)
NOT_NODES = {
    "L6": (
        ast.With, ast.AsyncWith, ast.Match, ast.Delete, ast.Global, ast.Nonlocal, ast.Assert, ast.Yield, ast.YieldFrom,
        ast.AsyncFor, ast.AsyncFunctionDef, ast.Await,
    ),
    "L7": (ast.Div, ast.SetComp, ast.DictComp, ast.GeneratorExp, ast.NamedExpr, ast.Starred, ast.MatMult),
    "L21": (ast.AnnAssign,),
}
PYTHONS_VALUES = ("", 0, [], {}, set(), b"")
VALUE_NAMES = set("count index title find get join lower upper split strip copy add".split())
WALKED = {"zip", "enumerate", "reversed", "range"}
WALKERS = {"list", "tuple", "dict", "sorted", "sum", "any", "all", "enumerate", "zip", "min", "max"}


def is_plain(node, functions):
    """L3: a plain value, or a list, tuple or dict of such and of functions defined above."""
    if isinstance(node, (ast.List, ast.Tuple)):
        return all(is_plain(part, functions) for part in node.elts)
    if isinstance(node, ast.Dict):
        return all(is_plain(part, functions) for part in node.keys + node.values)
    if isinstance(node, ast.UnaryOp) and isinstance(node.op, ast.USub):
        return isinstance(node.operand, ast.Constant)
    if isinstance(node, ast.Name):
        return node.id in functions
    return isinstance(node, ast.Constant)


def top_faults(tree):
    """L2, L3, L15, L16: what stands at a file's top."""
    bound = []
    functions = []
    for place, node in enumerate(tree.body):
        if isinstance(node, ast.ImportFrom):
            if node.level or not (node.module or "").startswith("postmeters."):
                yield "L2", node
            bound += [alias.name for alias in node.names]
            if any(alias.asname or alias.name == "*" for alias in node.names):
                yield "L2", node
        elif isinstance(node, ast.Import):
            yield "L2", node
        elif isinstance(node, (ast.FunctionDef, ast.ClassDef)):
            bound.append(node.name)
            functions.append(node.name)
        elif isinstance(node, ast.Assign):
            bound += [target.id for target in node.targets if isinstance(target, ast.Name)]
            if not is_plain(node.value, functions):
                yield "L3", node
            nested = getattr(node.value, "elts", []) + getattr(node.value, "values", [])
            if any(isinstance(part, (ast.List, ast.Dict)) for part in nested):
                yield "L15", node
        elif place or not isinstance(node, ast.Expr) or not isinstance(node.value, ast.Constant):
            yield "L3", node
    if len(bound) != len(set(bound)):
        yield "L15", tree.body[0]


def function_faults(node):
    """L4, L10, L21: one function."""
    given = node.args
    if given.vararg or given.kwarg or given.kwonlyargs or given.posonlyargs or node.decorator_list:
        yield "L4", node
    if not all(is_plain(default, []) for default in given.defaults):
        yield "L4", node
    if node.end_lineno - node.lineno >= 40:
        yield "L10", node
    if node.returns or any(parameter.annotation for parameter in given.args):
        yield "L21", node


def class_faults(node):
    """L5, L28: one class."""
    if len(node.bases) > 1 or node.keywords or node.decorator_list:
        yield "L5", node
    names = []
    for part in node.body:
        if isinstance(part, ast.FunctionDef):
            names.append(part.name)
            if part.name.startswith("__") and part.name not in DUNDERS:
                yield "L5", part
            if part.name == "__init__" and any(isinstance(step, ast.Return) and step.value for step in ast.walk(part)):
                yield "L28", part
        elif not isinstance(part, ast.Expr) or not isinstance(part.value, ast.Constant):
            yield "L5", part
    if len(names) != len(set(names)):
        yield "L18", node


def statement_faults(node):
    """L6, L7, L19, L20, L27: one node by itself."""
    for rule, kinds in NOT_NODES.items():
        if isinstance(node, kinds):
            yield rule, node
    if isinstance(node, ast.Assign) and len(node.targets) != 1:
        yield "L6", node
    if isinstance(node, (ast.For, ast.While)) and node.orelse:
        yield "L6", node
    if isinstance(node, ast.Try) and node.finalbody:
        yield "L6", node
    if isinstance(node, ast.ExceptHandler):
        caught = {part.id for part in ast.walk(node.type) if isinstance(part, ast.Name)} if node.type else {"Exception"}
        if caught & {"Exception", "TypeError"}:
            yield "L19", node
    if isinstance(node, ast.ListComp) and (len(node.generators) > 1 or len(node.generators[0].ifs) > 1):
        yield "L7", node
    if isinstance(node, ast.Constant) and isinstance(node.value, (float, bytes, complex)):
        yield "L7", node
    if isinstance(node, ast.Constant) and isinstance(node.value, str) and "%" in node.value:
        yield "L27", node
    if isinstance(node, ast.FormattedValue) and (node.format_spec or not isinstance(node.value, ast.Name)):
        yield "L7", node
    if isinstance(node, ast.Compare) and any(isinstance(sign, (ast.Is, ast.IsNot)) for sign in node.ops):
        if not isinstance(node.comparators[-1], ast.Constant):
            yield "L20", node
    if isinstance(node, ast.BinOp) and isinstance(node.op, ast.Pow) and not isinstance(node.right, ast.Constant):
        yield "L27", node


def name_faults(node, imported):
    """L8, L12, L15, L17, L26: one name, parameter or attribute."""
    if isinstance(node, ast.Name):
        if isinstance(node.ctx, ast.Load):
            if node.id in dir(builtins) and node.id not in OWN_NAMES:
                yield "L8", node
        elif node.id in dir(builtins) or node.id in imported:
            yield "L15", node
        if node.id.startswith("_"):
            yield "L12", node
        if node.id in NOT_NAMES:
            yield "L17", node
    if isinstance(node, ast.arg) and (node.arg in dir(builtins) or node.arg in imported or node.arg.startswith("_")):
        yield "L15", node
    if isinstance(node, ast.Attribute):
        if node.attr.startswith("_") and node.attr not in DUNDERS:
            yield "L12", node
        if node.attr in NOT_NAMES:
            yield "L17", node
        stored = isinstance(node.ctx, ast.Store) and node.attr not in VALUE_NAMES
        if stored and any(hasattr(value, node.attr) for value in PYTHONS_VALUES):
            yield "L26", node


def call_faults(tree, own_methods):
    """L22, L23, L25: how Python's own functions and methods are called."""
    walked = set()
    for node in ast.walk(tree):
        if isinstance(node, (ast.For, ast.comprehension)):
            walked.add(node.iter)
        if isinstance(node, ast.Call):
            if isinstance(node.func, ast.Name) and node.func.id in WALKERS:
                walked.update(node.args)
            if isinstance(node.func, ast.Attribute) and node.func.attr == "join":
                walked.update(node.args)
    for node in ast.walk(tree):
        if not isinstance(node, ast.Call):
            continue
        name = node.func.id if isinstance(node.func, ast.Name) else getattr(node.func, "attr", "")
        if (name in WALKED or name in ("items", "keys", "values")) and node not in walked:
            yield "L23", node
        if name == "set" or name == "frozenset":
            yield "L24", node
        if isinstance(node.func, ast.Attribute) and name not in METHODS | own_methods | DUNDERS:
            yield "L25", node
        if any(word.arg not in ("key", "reverse", "default", "start", "strict") for word in node.keywords):
            yield "L22", node


def loop_faults(tree):
    """L23: a loop that changes what it walks."""
    for node in ast.walk(tree):
        if isinstance(node, ast.For):
            walked = ast.unparse(node.iter)
            for step in ast.walk(node):
                if isinstance(step, ast.Call) and isinstance(step.func, ast.Attribute) and step.func.attr in CHANGES:
                    if ast.unparse(step.func.value) == walked:
                        yield "L23", step
                if isinstance(step, ast.Subscript) and isinstance(step.ctx, ast.Store):
                    if ast.unparse(step.value) == walked:
                        yield "L23", step


def constant_faults(tree):
    """L15: a list or dict of the file's top that a def changes or hands on as it is."""
    kept = set()
    for node in tree.body:
        if isinstance(node, ast.Assign) and isinstance(node.value, (ast.List, ast.Dict)):
            kept.add(node.targets[0].id)
    for node in ast.walk(tree):
        if isinstance(node, (ast.Return, ast.Assign)) and isinstance(node.value, ast.Name) and node.value.id in kept:
            yield "L15", node
        if isinstance(node, ast.Subscript) and isinstance(node.ctx, ast.Store):
            if isinstance(node.value, ast.Name) and node.value.id in kept:
                yield "L15", node
        if isinstance(node, ast.Attribute) and isinstance(node.value, ast.Name) and node.value.id in kept:
            if node.attr in CHANGES:
                yield "L15", node


def text_faults(source):
    """L10, L14, L17: the file as text."""
    rows = source.split("\n")
    if len(rows) > 401:
        yield "L10", 1
    for number, row in enumerate(rows, start=1):
        if len(row) > 120:
            yield "L10", number
        if not all(" " <= sign <= "~" for sign in row):
            yield "L14", number
        if NOT_WORDS.search(row):
            yield "L17", number


def methods_of(trees):
    classes = [node for tree in trees for node in ast.walk(tree) if isinstance(node, ast.ClassDef)]
    return {part.name for node in classes for part in node.body if isinstance(part, ast.FunctionDef)}


def values_of(trees):
    nodes = [node for tree in trees for node in ast.walk(tree)]
    return {node.attr for node in nodes if isinstance(node, ast.Attribute) and isinstance(node.ctx, ast.Store)}


def faults_of(source):
    """All faults of one file: pairs of a rule and a line."""
    tree = ast.parse(source)
    found = list(text_faults(source))
    imported = {alias.name for node in tree.body if isinstance(node, ast.ImportFrom) for alias in node.names}
    for rule, node in [
        *top_faults(tree), *call_faults(tree, methods_of([tree]) | methods_of(package_trees().values())),
        *loop_faults(tree), *constant_faults(tree),
    ]:
        found.append((rule, node.lineno))
    for node in ast.walk(tree):
        faults = list(statement_faults(node)) + list(name_faults(node, imported))
        if isinstance(node, ast.FunctionDef):
            faults += function_faults(node)
        if isinstance(node, ast.ClassDef):
            faults += class_faults(node)
        if isinstance(node, (ast.Import, ast.ImportFrom)) and node not in tree.body:
            faults.append(("L2", node))
        found += [(rule, part.lineno) for rule, part in faults if hasattr(part, "lineno")]
        found += [(rule, 0) for rule, part in faults if not hasattr(part, "lineno")]
    return sorted(set(found))


def package_files():
    return sorted(path for path in PACKAGE.rglob("*") if "__pycache__" not in path.parts)


def package_trees():
    return {path.stem: ast.parse(path.read_text("utf-8")) for path in package_files()}


def drawn_from(tree):
    return [node.module.split(".")[1] for node in tree.body if isinstance(node, ast.ImportFrom)]


class Package(unittest.TestCase):
    def test_files(self):
        for path in package_files():
            self.assertTrue(path.is_file() and re.fullmatch(r"(__init__|__main__|[a-z][a-z0-9_]*)\.py", path.name), path)
            self.assertNotIn(path.stem, dir(builtins))
            self.assertIsNone(re.fullmatch(r"test|tests|testing|test_.*|site|conftest|.*customize", path.stem))

    def test_rules(self):
        for path in package_files():
            with self.subTest(path=path.name):
                self.assertEqual(faults_of(path.read_text("utf-8")), [])

    def test_imports_name_the_file_that_defines(self):
        trees = package_trees()
        self.assertEqual(drawn_from(trees["__init__"]), [])
        for tree in trees.values():
            for node in tree.body:
                if isinstance(node, ast.ImportFrom):
                    drawn = trees[node.module.split(".")[1]].body
                    defined = {part.name for part in drawn if isinstance(part, (ast.FunctionDef, ast.ClassDef))}
                    defined |= {part.targets[0].id for part in drawn if isinstance(part, ast.Assign)}
                    self.assertLessEqual({alias.name for alias in node.names}, defined)

    def test_no_two_files_draw_from_one_another(self):
        left = {name: set(drawn_from(tree)) for name, tree in package_trees().items()}
        while left:
            free = [name for name, drawn in left.items() if not drawn & set(left)]
            self.assertTrue(free, left)
            left = {name: drawn for name, drawn in left.items() if name not in free}

    def test_no_name_is_a_method_and_a_value(self):
        trees = package_trees().values()
        self.assertEqual(methods_of(trees) & values_of(trees), set())


class Checker(unittest.TestCase):
    """Each of these is found, so that the walk above means something."""

    wrong = {
        "L2": ("import os\n", "from .house import answers\n", "from os import path\n", "def f():\n    import os\n"),
        "L3": ("print(1)\n", "x = len([])\n", "if True:\n    x = 1\n"),
        "L4": ("def f(*a):\n    return a\n", "def f(x=len([])):\n    return x\n", "def f(*, x):\n    return x\n"),
        "L5": ("class C:\n    x = 1\n", "class C:\n    def __add__(self, o):\n        return o\n"),
        "L6": ("def f():\n    assert True\n", "def f():\n    a = b = 1\n", "def f(x):\n    del x\n"),
        "L7": ("def f(x):\n    return x / 2\n", "x = 1.5\n", "def f(x):\n    return sum(y for y in x)\n", "x = b''\n"),
        "L8": ("def f(x):\n    return hash(x)\n", "def f(x):\n    return chr(x)\n"),
        "L10": ("def f():\n" + "    pass\n" * 40, "# " + "x" * 120 + "\n", "\n" * 401),
        "L12": ("def f():\n    _x = 1\n", "def f(x):\n    return x._y\n"),
        "L14": ("# \u00e4\n", "#\tx\n"),
        "L15": ("x = 1\nx = 2\n", "x = [[1]]\n", "x = [1]\ndef f():\n    x.append(2)\n", "def f(sum):\n    return sum\n"),
        "L17": ("# type\n", "def f(x):\n    return x.register\n", "# a dataclasses\n"),
        "L19": ("def f():\n    try:\n        pass\n    except Exception:\n        pass\n",),
        "L20": ("def f(x, y):\n    return x is y\n",),
        "L21": ("def f(x: int):\n    return x\n", "x: int = 1\n"),
        "L23": ("def f(x):\n    y = range(x)\n    return y\n", "def f(x):\n    for y in x:\n        x.append(y)\n"),
        "L24": ("def f(x):\n    y = set(x)\n    return y\n",),
        "L25": ("def f(x):\n    return x.sort()\n", "def f(x):\n    return x.swapcase()\n"),
        "L26": ("def f(x):\n    x.items = 1\n",),
        "L27": ("x = '%'\n", "def f(x):\n    return 2 ** x\n"),
        "L28": ("class C:\n    def __init__(self):\n        return 1\n",),
    }

    def test_each_is_found(self):
        for rule, sources in self.wrong.items():
            for source in sources:
                with self.subTest(rule=rule, source=source[:60]):
                    try:
                        found = {fault for fault, line in faults_of(source)}
                    except SyntaxError as error:
                        self.fail(str(error))
                    self.assertIn(rule, found)
