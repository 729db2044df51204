"""The package's files keep to the small part of Python: the rules that a walk through the code can see."""

import ast
import builtins
import pathlib
import re
import unittest

PACKAGE = pathlib.Path(__file__).resolve().parent.parent / "panehouse"

OWN_NAMES = set("""len range enumerate zip min max sum abs sorted reversed int str bool list tuple dict set frozenset
isinstance ord repr any all divmod Exception ValueError TypeError KeyError IndexError LookupError ZeroDivisionError
ArithmeticError OverflowError RuntimeError NotImplementedError AttributeError StopIteration""".split())
METHODS = set("""append clear copy count endswith extend find get index insert isalnum isalpha isdigit islower isspace
isupper items join keys ljust lower lstrip partition pop remove replace reverse rfind rjust rpartition rsplit rstrip
setdefault split splitlines startswith strip update upper values zfill bit_length""".split())
WORDS_OUT = re.compile(r"\b(type|typing|typing_extensions|enum|Enum|IntEnum|StrEnum|Flag|IntFlag|Generic|Protocol|ABC|"
                       r"ABCMeta|namedtuple|NamedTuple|TypedDict|TYPE_CHECKING|abstractmethod)\b"
                       r"|dataclass|overload|contextmanager")
NAMES_OUT = set("""register mro elements open input version_info with_traceback add_note attrgetter breakpoint builtins
compile copyright credits delattr dir eval exec exit gc getattr globals hasattr help id importlib license locals
methodcaller os quit setattr super vars sys""".split())
PLAIN_NAME = re.compile(r"[A-Za-z][A-Za-z0-9_]*\Z")
TWO_UNDERSCORES = ("__init__", "__eq__", "__repr__", "__str__", "__len__")
STATEMENTS = (ast.Assign, ast.AugAssign, ast.If, ast.While, ast.For, ast.Return, ast.Break, ast.Continue, ast.Pass,
              ast.Raise, ast.Try, ast.Expr, ast.FunctionDef, ast.ClassDef, ast.ImportFrom)
EXPRESSIONS = (ast.Constant, ast.List, ast.Tuple, ast.Dict, ast.BinOp, ast.UnaryOp, ast.Compare, ast.BoolOp, ast.IfExp,
               ast.Call, ast.Attribute, ast.Subscript, ast.Slice, ast.ListComp, ast.JoinedStr, ast.FormattedValue,
               ast.Name, ast.Lambda)
PLAIN_VALUES = (ast.Constant, ast.List, ast.Tuple, ast.Dict, ast.Name, ast.UnaryOp, ast.USub, ast.Load)


def sign_faults(text):
    faults = []
    if not all(sign == "\n" or " " <= sign <= "~" for sign in text):
        faults.append("L14 a sign")
    rows = text.split("\n")
    if len(rows) > 401 or max(len(one) for one in rows) > 120:
        faults.append("L10 size")
    if WORDS_OUT.search(text):
        faults.append("L17 a word")
    return faults


def top_faults(tree):
    faults = []
    bound = []
    for place, node in enumerate(tree.body):
        if isinstance(node, (ast.FunctionDef, ast.ClassDef)):
            bound.append(node.name)
        elif isinstance(node, ast.ImportFrom):
            bound.extend(alias.name for alias in node.names)
        elif isinstance(node, ast.Assign):
            bound.extend(target.id for target in node.targets)
            if not all(isinstance(part, PLAIN_VALUES) for part in ast.walk(node.value)):
                faults.append("L3 no plain value")
        elif not (place == 0 and isinstance(node, ast.Expr) and isinstance(node.value, ast.Constant)):
            faults.append("L3 the top")
    if len(set(bound)) != len(bound):
        faults.append("L15 a name twice")
    return faults


def statement_faults(node):
    if not isinstance(node, STATEMENTS):
        return ["L6 a statement"]
    if isinstance(node, ast.Assign) and (len(node.targets) != 1 or isinstance(node.targets[0], (ast.Tuple, ast.List))):
        return ["L6 one target"]
    if isinstance(node, (ast.For, ast.While)) and node.orelse:
        return ["L6 else behind a loop"]
    if isinstance(node, ast.Try) and (node.finalbody or any(one.type is None for one in node.handlers)):
        return ["L6 try"]
    if isinstance(node, ast.FunctionDef):
        return function_faults(node)
    if isinstance(node, ast.ClassDef):
        return class_faults(node)
    if isinstance(node, ast.ImportFrom):
        own = node.level == 0 and (node.module or "").startswith("panehouse.")
        return [] if own and not any(one.asname or one.name == "*" for one in node.names) else ["L2 an import"]
    return []


def function_faults(node):
    faults = []
    held = node.args
    if node.end_lineno - node.lineno + 1 > 40:
        faults.append("L10 a function's size")
    if held.vararg or held.kwarg or held.kwonlyargs or held.posonlyargs or node.decorator_list:
        faults.append("L4 a function")
    return faults


def class_faults(node):
    if node.decorator_list or node.keywords or len(node.bases) > 1:
        return ["L5 a class"]
    return [] if all(isinstance(one, (ast.FunctionDef, ast.Pass)) for one in node.body) else ["L5 a class's body"]


def is_truth(node):
    return isinstance(node, ast.Constant) and (node.value is None or isinstance(node.value, bool))


def expression_faults(node):
    if not isinstance(node, EXPRESSIONS):
        return ["L7 an expression"]
    faults = []
    if isinstance(node, ast.Constant):
        if node.value is not None and not isinstance(node.value, (int, str)):
            faults.append("L7 a value")
        if isinstance(node.value, str) and "%" in node.value:
            faults.append("L27 a percent sign")
    if isinstance(node, ast.BinOp) and isinstance(node.op, (ast.Div, ast.MatMult)):
        faults.append("L7 an operator")
    if isinstance(node, ast.ListComp) and (len(node.generators) > 1 or len(node.generators[0].ifs) > 1):
        faults.append("L7 a comprehension")
    if isinstance(node, ast.Compare) and any(isinstance(op, (ast.Is, ast.IsNot)) for op in node.ops):
        if not is_truth(node.left) and not is_truth(node.comparators[0]):
            faults.append("L20 is")
    return faults


def bound_names(tree):
    names = []
    for node in ast.walk(tree):
        if isinstance(node, ast.Name) and isinstance(node.ctx, ast.Store):
            names.append(node.id)
        elif isinstance(node, ast.arg):
            names.append(node.arg)
        elif isinstance(node, (ast.FunctionDef, ast.ClassDef)):
            names.append(node.name)
        elif isinstance(node, ast.ImportFrom):
            names.extend(alias.name for alias in node.names)
        elif isinstance(node, ast.ExceptHandler) and node.name:
            names.append(node.name)
    return names


def method_names(trees):
    return {one.name for tree in trees for node in ast.walk(tree) if isinstance(node, ast.ClassDef)
            for one in node.body if isinstance(one, ast.FunctionDef)}


def name_faults(tree, own_methods):
    faults = []
    bound = bound_names(tree)
    for name in bound:
        if name not in TWO_UNDERSCORES and not PLAIN_NAME.match(name):
            faults.append("L12 " + name)
        if name in NAMES_OUT and name not in own_methods:
            faults.append("L17 " + name)
        if hasattr(builtins, name) and name not in own_methods:
            faults.append("L15 " + name)
    for node in ast.walk(tree):
        if isinstance(node, ast.Name) and node.id not in bound and node.id not in OWN_NAMES:
            faults.append("L8 " + node.id)
        if isinstance(node, ast.Call) and isinstance(node.func, ast.Attribute):
            if node.func.attr not in METHODS and node.func.attr not in own_methods:
                faults.append("L25 " + node.func.attr)
    return faults


def locals_of(tree):
    names = []
    for node in ast.walk(tree):
        if isinstance(node, (ast.FunctionDef, ast.Lambda)):
            names.extend(part.arg for part in ast.walk(node) if isinstance(part, ast.arg))
            names.extend(part.id for part in ast.walk(node)
                         if isinstance(part, ast.Name) and isinstance(part.ctx, ast.Store))
    return names


def local_faults(tree):
    taken = [alias.name for node in tree.body if isinstance(node, ast.ImportFrom) for alias in node.names]
    taken += [node.name for node in tree.body if isinstance(node, ast.ClassDef)]
    return ["L15 " + name for name in locals_of(tree) if name in taken]


def is_call_of(node, names):
    return isinstance(node, ast.Call) and isinstance(node.func, ast.Name) and node.func.id in names


def is_walk(node):
    if isinstance(node, ast.Call) and isinstance(node.func, ast.Attribute):
        return node.func.attr in ("items", "keys", "values")
    return is_call_of(node, ("zip", "enumerate", "reversed", "range"))


def walked_here(node):
    """The parts of a node in whose place something may stand that is walked at once."""
    if isinstance(node, (ast.For, ast.comprehension)):
        return [node.iter]
    if is_call_of(node, ("list", "tuple", "dict", "sorted", "sum", "any", "all", "enumerate", "zip")):
        return node.args[:1]
    return node.args if is_call_of(node, ("min", "max")) and len(node.args) == 1 else []


def set_held(node):
    """The parts of a node in whose place a set may stand."""
    if isinstance(node, ast.Compare):
        return [node.left] + node.comparators
    if isinstance(node, ast.BinOp) and isinstance(node.op, (ast.Sub, ast.BitAnd, ast.BitOr, ast.BitXor)):
        return [node.left, node.right]
    return node.args if is_call_of(node, ("sorted", "len")) and not node.keywords else []


def walk_faults(tree):
    walked = [part for node in ast.walk(tree) for part in walked_here(node)]
    held = [part for node in ast.walk(tree) for part in set_held(node)]
    faults = []
    for node in ast.walk(tree):
        if is_walk(node) and node not in walked:
            faults.append("L23 a walk kept")
        if (isinstance(node, ast.Set) or is_call_of(node, ("set", "frozenset"))) and node not in held:
            faults.append("L24 a set kept")
    return faults


def class_uses(node):
    """The parts of a node in whose place a class may stand."""
    if isinstance(node, ast.Call):
        return [node.func] + (node.args[1:] if is_call_of(node, ("isinstance",)) else [])
    if isinstance(node, ast.ClassDef):
        return node.bases
    if isinstance(node, ast.ExceptHandler):
        return [node.type] + (node.type.elts if isinstance(node.type, ast.Tuple) else [])
    return [node.value] if isinstance(node, ast.Attribute) and node.attr == "__init__" else []


def class_name_faults(tree):
    # Classes are told from what is written in great letters alone: lists, tuples, numbers of a file's top.
    names = [name for name in bound_names(tree) if name[0].isupper() and not name.isupper()]
    used = [part for node in ast.walk(tree) for part in class_uses(node)]
    return ["L18 " + node.id for node in ast.walk(tree)
            if isinstance(node, ast.Name) and node.id in names and node not in used]


def keyword_faults(tree):
    let_by = {"sorted": ("key", "reverse"), "min": ("key", "default"), "max": ("key", "default"), "sum": ("start",),
              "enumerate": ("start",), "zip": ("strict",)}
    faults = []
    for node in ast.walk(tree):
        if isinstance(node, ast.Call) and node.keywords:
            name = node.func.id if isinstance(node.func, ast.Name) else ""
            own = name in bound_names(tree)
            if not own and not all(one.arg in let_by.get(name, ()) for one in node.keywords):
                faults.append("L22 a keyword")
    return faults


def error_faults(tree):
    taken = ("KeyError", "ZeroDivisionError", "StopIteration")
    faults = []
    for node in ast.walk(tree):
        if isinstance(node, ast.ExceptHandler):
            if not isinstance(node.type, ast.Name) or node.type.id not in bound_names(tree) + list(taken):
                faults.append("L19 an error taken")
        if isinstance(node, ast.Raise) and not isinstance(node.exc, ast.Call):
            faults.append("L19 an error raised")
    return faults


def read_only(node):
    """The parts of a node in whose place a list or dict of a file's top may stand."""
    if isinstance(node, ast.Subscript) and isinstance(node.ctx, ast.Load):
        return [node.value]
    if isinstance(node, ast.Compare):
        return node.comparators
    if isinstance(node, (ast.For, ast.comprehension)):
        return [node.iter]
    if isinstance(node, ast.Attribute) and node.attr in ("get", "items", "keys", "values", "index", "count"):
        return [node.value]
    return node.args if is_call_of(node, ("len", "list", "dict", "tuple", "sorted")) else []


def kept_faults(tree, tops):
    let_by = [part for node in ast.walk(tree) for part in read_only(node)]
    return ["L15 " + node.id for node in ast.walk(tree)
            if isinstance(node, ast.Name) and isinstance(node.ctx, ast.Load) and node.id in tops
            and node not in let_by]


def tops_of(tree):
    return [node.targets[0].id for node in tree.body
            if isinstance(node, ast.Assign) and isinstance(node.value, (ast.List, ast.Dict))]


def value_names(trees):
    return {node.attr for tree in trees for node in ast.walk(tree)
            if isinstance(node, ast.Attribute) and isinstance(node.ctx, ast.Store)}


def faults_of(text, own_methods=()):
    tree = ast.parse(text)
    faults = sign_faults(text) + top_faults(tree) + name_faults(tree, own_methods)
    faults += local_faults(tree) + walk_faults(tree) + class_name_faults(tree)
    faults += keyword_faults(tree) + error_faults(tree) + kept_faults(tree, tops_of(tree))
    for node in ast.walk(tree):
        if isinstance(node, ast.stmt):
            faults += statement_faults(node)
        elif isinstance(node, ast.expr):
            faults += expression_faults(node)
        if isinstance(node, ast.Expr) and not isinstance(node.value, ast.Call) and node not in tree.body:
            faults.append("L6 a value by itself")
    return faults


def package_texts():
    return {path.stem: path.read_text(encoding="utf-8") for path in sorted(PACKAGE.glob("*.py"))}


def drawn_from(tree):
    return [(node.module.split(".")[1], alias.name) for node in tree.body if isinstance(node, ast.ImportFrom)
            for alias in node.names]


class Form(unittest.TestCase):
    def test_the_package_holds_python_files_alone(self):
        for path in PACKAGE.iterdir():
            if path.name != "__pycache__":
                self.assertRegex(path.name, r"\A([a-z][a-z0-9_]*|__init__|__main__)\.py\Z")

    def test_each_file_keeps_to_the_rules(self):
        texts = package_texts()
        self.assertIn("__init__", texts)
        own_methods = method_names([ast.parse(text) for text in texts.values()])
        for stem, text in texts.items():
            with self.subTest(stem):
                self.assertEqual(faults_of(text, own_methods), [])

    def test_no_name_is_a_method_and_a_value(self):
        trees = [ast.parse(text) for text in package_texts().values()]
        self.assertEqual(method_names(trees) & value_names(trees), set())

    def test_own_methods_and_values_are_called_otherwise_than_pythons(self):
        trees = [ast.parse(text) for text in package_texts().values()]
        taken = {name for own in (str, int, list, tuple, dict, set, bytes) for name in dir(own)} - {"__init__"}
        self.assertEqual((method_names(trees) | value_names(trees)) & taken, set())

    def test_lists_and_dicts_of_a_top_are_only_read_elsewhere_too(self):
        trees = [ast.parse(text) for text in package_texts().values()]
        tops = [name for tree in trees for name in tops_of(tree)]
        self.assertEqual([fault for tree in trees for fault in kept_faults(tree, tops)], [])

    def test_names_are_drawn_from_the_file_that_defines_them(self):
        trees = {stem: ast.parse(text) for stem, text in package_texts().items()}
        for stem, tree in trees.items():
            for source, name in drawn_from(tree):
                with self.subTest((stem, source, name)):
                    top = [node for node in trees[source].body if not isinstance(node, ast.ImportFrom)]
                    self.assertIn(name, bound_names(ast.Module(top, [])))

    def test_no_two_files_draw_from_one_another(self):
        left = {stem: {source for source, name in drawn_from(ast.parse(text))}
                for stem, text in package_texts().items()}
        # __init__.py is drawn from by all, so it draws from none.
        self.assertEqual(left["__init__"], set())
        while left:
            free = [stem for stem, sources in left.items() if not sources & set(left)]
            self.assertTrue(free, left)
            for stem in free:
                del left[stem]

    def test_what_breaks_a_rule_is_seen(self):
        wrong = ["import sys", "from os import path", "from .errors import x", "x = 1 / 2", "x = 1.5", "x = f(1)",
                 "x = 1\nx = 2", "def f(*a):\n    pass", "def f():\n    'why'", "def f(a):\n    a = b = 1",
                 "def f(a):\n    a, b = 1, 2", "def f():\n    assert 1", "def f(a):\n    return a is 5",
                 "def f(a):\n    return {b for b in a}", "def f(a):\n    return all(b for b in a)",
                 "def f(a):\n    return a.casefold()", "def f(list):\n    pass", "def f(a):\n    return hash(a)",
                 "class A:\n    x = 1", "def _f():\n    pass", "x = 'type'", "x = '\u00e9'", "x = '%'",
                 "def f():\n" + "    pass\n" * 40, "x = '" + "a" * 120 + "'",
                 "from panehouse.a import b\ndef f(b):\n    pass", "class Ab:\n    pass\ndef f(a):\n    return [Ab]",
                 "class Ab:\n    pass\ndef f():\n    a = Ab\n    return a()", "def f(a):\n    b = zip(a, a)",
                 "def f(a):\n    for b in reversed(range(a)):\n        pass", "def f(a):\n    return a.items()",
                 "def f(a):\n    b = set(a)", "X = {}\ndef f():\n    return X",
                 "X = []\ndef f():\n    X.append(1)",
                 "X = []\ndef f():\n    X[0] = 1", "def f(a):\n    return str(object=a)",
                 "def f(a):\n    try:\n        a()\n    except ValueError:\n        pass",
                 "def f(a):\n    try:\n        a()\n    except Exception as e:\n        raise e",
                 "def f(a):\n    for b in {1, a}:\n        pass"]
        for text in wrong:
            with self.subTest(text):
                self.assertNotEqual(faults_of(text), [])
