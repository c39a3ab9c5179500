"""Holds the package's files to those rules of LANGUAGE.md that can be seen by a machine without much ado."""
import ast
import builtins
import pathlib
import re
import unittest

PACKAGE = pathlib.Path(__file__).resolve().parent.parent / "tiewood"

NODES = set("""
    Module ImportFrom alias FunctionDef arguments arg Lambda ClassDef
    Assign AugAssign AnnAssign If While For Return Break Continue Pass Raise Try ExceptHandler Expr
    Constant Name Load Store List Tuple Dict Set Attribute Subscript Slice Call keyword
    BinOp Add Sub Mult FloorDiv Mod Pow LShift RShift BitOr BitXor BitAnd UnaryOp USub UAdd Invert Not
    BoolOp And Or Compare Eq NotEq Lt LtE Gt GtE Is IsNot In NotIn IfExp ListComp comprehension
    JoinedStr FormattedValue
""".split())
BUILTINS = set("""
    len range enumerate zip min max sum abs sorted reversed int str bool list tuple dict set frozenset isinstance
    ord repr any all divmod Exception ValueError TypeError KeyError IndexError LookupError ZeroDivisionError
    ArithmeticError OverflowError RuntimeError NotImplementedError AttributeError StopIteration
""".split())
METHODS = set("""
    append clear copy count endswith extend find get index insert isalnum isalpha isdigit islower isspace isupper
    items join keys ljust lower lstrip partition pop remove replace reverse rfind rjust rpartition rsplit rstrip
    setdefault split splitlines startswith strip update upper values zfill bit_length
""".split())
SPECIAL = set("__init__ __eq__ __repr__ __str__ __len__".split())
UNUSED = set("register mro elements open input version_info with_traceback add_note format format_map".split())
WORDS = re.compile(
    r"\b(type|typing|typing_extensions|enum|Enum|IntEnum|StrEnum|Flag|IntFlag|Generic|Protocol|ABC|ABCMeta"
    r"|namedtuple|NamedTuple|TypedDict|TYPE_CHECKING|abstractmethod)\b|dataclass|overload|contextmanager"
)


def text_faults(text):
    if not all(" " <= sign <= "~" or sign == "\n" for sign in text):
        yield "L14: a sign that is not allowed"
    lines = text.splitlines()
    if len(lines) > 400 or any(len(line) > 120 for line in lines):
        yield "L10: a file or a line is too long"
    if WORDS.search(text):
        yield "L17: the word " + WORDS.search(text).group()


def bound_names(tree):
    for node in ast.walk(tree):
        if isinstance(node, (ast.FunctionDef, ast.ClassDef)):
            yield node.name
        elif isinstance(node, ast.arg):
            yield node.arg
        elif isinstance(node, ast.Name) and isinstance(node.ctx, ast.Store):
            yield node.id
        elif isinstance(node, ast.alias):
            yield node.asname or node.name
        elif isinstance(node, ast.ExceptHandler) and node.name:
            yield node.name


def top_faults(tree):
    for k, node in enumerate(tree.body):
        docstring = k == 0 and isinstance(node, ast.Expr) and isinstance(node.value, ast.Constant)
        if not docstring and not isinstance(node, (ast.ImportFrom, ast.FunctionDef, ast.ClassDef, ast.Assign)):
            yield "L3: at the top of the file"
    tops = [name for node in tree.body for name in bound_names_of_row(node)]
    if len(tops) != len(set(tops)):
        yield "L15: a name is bound twice at the top of the file"
    for node in ast.walk(tree):
        if isinstance(node, ast.ClassDef) and node not in tree.body:
            yield "L15: a class stands elsewhere"
        if isinstance(node, ast.ImportFrom) and node not in tree.body:
            yield "L2: an import stands elsewhere"


def bound_names_of_row(node):
    if isinstance(node, (ast.FunctionDef, ast.ClassDef)):
        return [node.name]
    if isinstance(node, ast.Assign):
        return [target.id for target in node.targets if isinstance(target, ast.Name)]
    if isinstance(node, ast.ImportFrom):
        return [alias.asname or alias.name for alias in node.names]
    return []


def name_faults(tree):
    own = set(bound_names(tree))
    for name in own:
        plain = name in SPECIAL or re.fullmatch(r"[A-Za-z][A-Za-z0-9_]*", name)
        if not plain or name in UNUSED:
            yield "L12, L17: the name " + name
    methods = {
        node.name for each in ast.walk(tree) if isinstance(each, ast.ClassDef)
        for node in each.body if isinstance(node, ast.FunctionDef)
    }
    for name in (own - methods) & set(dir(builtins)):
        yield "L15: a name of Python's own: " + name
    for node in ast.walk(tree):
        if isinstance(node, ast.Name) and node.id not in own and node.id not in BUILTINS:
            yield "L8: the name " + node.id


def node_faults(tree):
    for node in ast.walk(tree):
        kind = node.__class__.__name__
        if kind not in NODES:
            yield "L6, L7: " + kind
        for fault in faults_of_node(node):
            yield fault


def faults_of_node(node):
    if isinstance(node, ast.ImportFrom):
        if node.level or not (node.module or "").startswith("tiewood.") or node.names[0].name == "*":
            yield "L2: an import"
    elif isinstance(node, ast.FunctionDef):
        if node.end_lineno - node.lineno >= 40:
            yield "L10: the function is too long: " + node.name
        if node.decorator_list or node.args.vararg or node.args.kwarg or node.args.kwonlyargs:
            yield "L4: the function " + node.name
    elif isinstance(node, ast.ClassDef):
        if node.decorator_list or node.keywords or len(node.bases) > 1:
            yield "L5: the class " + node.name
        if not all(isinstance(row, (ast.FunctionDef, ast.Pass)) for row in node.body):
            yield "L5: the body of the class " + node.name
    elif isinstance(node, (ast.For, ast.While)) and node.orelse:
        yield "L6: else behind a loop"
    elif isinstance(node, ast.Try) and node.finalbody:
        yield "L6: finally"
    elif isinstance(node, ast.Assign) and len(node.targets) != 1:
        yield "L6: several targets"
    elif isinstance(node, ast.ListComp) and (len(node.generators) > 1 or len(node.generators[0].ifs) > 1):
        yield "L7: a list comprehension"
    elif isinstance(node, ast.Constant) and not (node.value is None or isinstance(node.value, (int, str))):
        yield "L7: a value"
    elif isinstance(node, ast.Constant) and isinstance(node.value, str) and "%" in node.value:
        yield "L27: the sign for hundredths in a text"
    elif isinstance(node, ast.BinOp) and isinstance(node.op, ast.Pow) and not isinstance(node.right, ast.Constant):
        yield "L27: an exponent that is not written"
    elif isinstance(node, ast.Compare):
        for op, right in zip(node.ops, node.comparators):
            if isinstance(op, (ast.Is, ast.IsNot)) and not isinstance(right, ast.Constant):
                yield "L20: is"
    elif isinstance(node, ast.Attribute) and (node.attr in UNUSED or node.attr.startswith("_")):
        if node.attr not in SPECIAL:
            yield "L8, L12, L17: the attribute " + node.attr


def method_faults(tree, own_methods):
    for node in ast.walk(tree):
        if isinstance(node, ast.Call) and isinstance(node.func, ast.Attribute):
            if node.func.attr not in METHODS | own_methods | SPECIAL:
                yield "L25: the method " + node.func.attr


def faults(text, own_methods=frozenset()):
    tree = ast.parse(text)
    found = list(text_faults(text)) + list(top_faults(tree)) + list(name_faults(tree))
    return found + list(node_faults(tree)) + list(method_faults(tree, own_methods))


def package_files():
    return sorted(path for path in PACKAGE.rglob("*") if "__pycache__" not in path.parts)


def methods_of_package():
    trees = [ast.parse(path.read_text("utf-8")) for path in package_files()]
    classes = [node for tree in trees for node in ast.walk(tree) if isinstance(node, ast.ClassDef)]
    return {node.name for each in classes for node in each.body if isinstance(node, ast.FunctionDef)}


def draws_from(path):
    rows = [node for node in ast.parse(path.read_text("utf-8")).body if isinstance(node, ast.ImportFrom)]
    return {row.module.split(".")[-1] for row in rows}


class Form(unittest.TestCase):
    def test_the_folder_holds_plain_files_alone(self):
        self.assertIn(PACKAGE / "__init__.py", package_files())
        for path in package_files():
            with self.subTest(path=path.name):
                self.assertTrue(path.is_file())
                self.assertRegex(path.name, r"^(__init__|[a-z][a-z0-9_]*)\.py$")
                self.assertFalse(path.stem in dir(builtins) or path.stem.startswith("test"))

    def test_each_file_keeps_to_the_rules(self):
        own_methods = methods_of_package()
        for path in package_files():
            with self.subTest(path=path.name):
                self.assertEqual(faults(path.read_text("utf-8"), own_methods), [])

    def test_no_two_files_draw_from_one_another(self):
        drawn = {path.stem: draws_from(path) for path in package_files()}
        while drawn:
            free = [name for name in drawn if not drawn[name] & set(drawn)]
            self.assertTrue(free, drawn)
            drawn = {name: drawn[name] for name in drawn if name not in free}

    def test_code_outside_the_rules_is_seen(self):
        outside = (
            "import random", "from time import time", "from tiewood.places import *", "x = 1.5", "x = 1\nx = 2",
            "def f(*a):\n    pass", "def f(a):\n    return open(a)", "def f(a):\n    yield a", "def f(a):\n    del a",
            "def f(a):\n    return {b for b in a}", "def f(a, b):\n    return a is b", "def f(n):\n    return 2 ** n",
            "def f(a):\n    a.sort()", "def f(id):\n    return id", "class A:\n    x = 1", "# an enum", "print(1)",
            "def f(a):\n    a = b = 1", "def f(a):\n    assert a", "def _f(a):\n    return a", "# \u00e9",
            "def f(a):\n" + "    a += 1\n" * 40, "def f(a):\n    return a / 2", "def f(a):\n    return a.__dict__",
        )
        for text in outside:
            with self.subTest(text=text):
                self.assertNotEqual(faults(text), [])


if __name__ == "__main__":
    unittest.main()
