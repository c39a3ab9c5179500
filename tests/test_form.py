"""Holds the package's files to LANGUAGE.md, as far as a script can see it; where a rule gives leave, often narrower."""
import ast
import builtins
import pathlib
import re
import unittest

PACKAGE = pathlib.Path(__file__).resolve().parent.parent / "tiewood"

NODES = set("""
    Module ImportFrom alias FunctionDef arguments arg Lambda ClassDef
    Assign AugAssign If While For Return Break Continue Pass Raise Try ExceptHandler Expr
    Constant Name Load Store List Tuple Dict Set Attribute Subscript Slice Call keyword
    BinOp Add Sub Mult FloorDiv Mod Pow LShift RShift BitOr BitXor BitAnd UnaryOp USub UAdd Invert Not
    BoolOp And Or Compare Eq NotEq Lt LtE Gt GtE Is IsNot In NotIn IfExp ListComp comprehension
    JoinedStr FormattedValue
""".split())
FUNCTIONS = set("""
    len range enumerate zip min max sum abs sorted reversed int str bool list tuple dict set frozenset isinstance
    ord repr any all divmod
""".split())
ERRORS = set("""
    Exception ValueError TypeError KeyError IndexError LookupError ZeroDivisionError ArithmeticError OverflowError
    RuntimeError NotImplementedError AttributeError StopIteration
""".split())
METHODS = set("""
    append clear copy count endswith extend find get index insert isalnum isalpha isdigit islower isspace isupper
    items join keys ljust lower lstrip partition pop remove replace reverse rfind rjust rpartition rsplit rstrip
    setdefault split splitlines startswith strip update upper values zfill bit_length
""".split())
CHANGES = set("append clear extend insert pop remove reverse setdefault update".split())
VALUES = set("count index title find get join lower upper split strip copy add".split())
PYTHONS_OWN = set().union(*(dir(kind) for kind in (str, int, float, complex, list, tuple, dict, set, frozenset, bytes)))
WALKERS = set("zip enumerate reversed range".split())
WALKING_METHODS = set("items keys values".split())
WALKED_BY = set("list tuple dict sorted sum any all enumerate zip".split())
READ_BY = WALKED_BY | set("len min max reversed".split())
READING_METHODS = set("get items keys values index count copy".split())
KINDS = set("int str bool list tuple dict".split())
KEYS = set("len int str abs sum min max tuple".split())
KEYWORDS = {
    "sorted": ("key", "reverse"), "min": ("key", "default"), "max": ("key", "default"), "sum": ("start",),
    "enumerate": ("start",), "zip": ("strict",),
}
UNUSED = set("register mro elements open input version_info with_traceback add_note format format_map".split())
UNUSED_NAMES = set("""
    attrgetter breakpoint builtins compile copyright credits delattr dir eval exec exit gc getattr globals hasattr help
    id importlib license locals methodcaller os quit setattr super type vars sys
""".split())
FRAMES = re.compile(r"(f_(back|builtins|code|globals|lasti|lineno|locals|trace\w*)|(tb|co|gi|cr|ag)_\w+)")
WORDS = re.compile(
    r"\b(type|typing|typing_extensions|enum|Enum|IntEnum|StrEnum|Flag|IntFlag|Generic|Protocol|ABC|ABCMeta"
    r"|namedtuple|NamedTuple|TypedDict|TYPE_CHECKING|abstractmethod)\b|dataclass|overload|contextmanager"
)


class File:
    """A file's text and tree, and what the rules ask of the whole package."""

    def __init__(self, text, package=None):
        self.text = text
        self.tree = ast.parse(text)
        self.nodes = list(ast.walk(self.tree))
        self.above = {below: node for node in self.nodes for below in ast.iter_child_nodes(node)}
        self.imported = [alias.asname or alias.name for node in self.all(ast.ImportFrom) for alias in node.names]
        self.package = package or {"": self}

    def all(self, *kinds):
        return [node for node in self.nodes if isinstance(node, kinds)]

    def top_names(self):
        told = list(self.imported)
        for node in self.tree.body:
            if isinstance(node, (ast.FunctionDef, ast.ClassDef)):
                told.append(node.name)
            elif isinstance(node, ast.Assign):
                told.extend(target.id for target in node.targets if isinstance(target, ast.Name))
        return told

    def local_names(self):
        told = [node.arg for node in self.all(ast.arg)]
        told += [node.name for node in self.all(ast.ExceptHandler) if node.name]
        told += [node.name for node in self.all(ast.FunctionDef) if isinstance(self.above[node], ast.FunctionDef)]
        for node in self.all(ast.Name):
            if isinstance(node.ctx, ast.Store) and not isinstance(self.above[node], ast.Module):
                if not (isinstance(self.above[node], ast.Assign) and self.above[node] in self.tree.body):
                    told.append(node.id)
        return told

    def methods(self):
        defs = [node for each in self.all(ast.ClassDef) for node in each.body]
        return [node.name for node in defs if isinstance(node, ast.FunctionDef)]

    def values(self):
        return [node.attr for node in self.all(ast.Attribute) if isinstance(node.ctx, ast.Store)]

    def package_methods(self):
        return {name for file in self.package.values() for name in file.methods()}

    def package_values(self):
        return {name for file in self.package.values() for name in file.values()}

    def classes(self):
        own = {node.name for file in self.package.values() for node in file.all(ast.ClassDef)}
        return own & set(self.top_names())

    def within(self, node, kind):
        while node in self.above:
            node = self.above[node]
            if isinstance(node, kind):
                return True
        return False


def called_name(node):
    return node.func.id if isinstance(node, ast.Call) and isinstance(node.func, ast.Name) else None


def called_method(node):
    return node.func.attr if isinstance(node, ast.Call) and isinstance(node.func, ast.Attribute) else None


def is_written(node, kind=object):
    return isinstance(node, ast.Constant) and isinstance(node.value, kind)


def is_handed_to(file, node, names):
    call = file.above[node]
    return called_name(call) in names and bool(call.args) and call.args[0] is node


def is_asked_by_isinstance(file, node):
    call = file.above[node]
    if isinstance(call, ast.Tuple):
        node, call = call, file.above[call]
    return called_name(call) == "isinstance" and len(call.args) == 2 and call.args[1] is node


def is_taken_by_except(file, node):
    above = file.above[node]
    return isinstance(file.above[above] if isinstance(above, ast.Tuple) else above, ast.ExceptHandler)


def is_call_of_base(file, node):
    begin = file.above[node]
    call = file.above[begin]
    if not (isinstance(begin, ast.Attribute) and begin.attr == "__init__" and isinstance(call, ast.Call)):
        return False
    while not isinstance(call, (ast.ClassDef, ast.Module)):
        call = file.above[call]
    return isinstance(call, ast.ClassDef) and [ast.dump(base) for base in call.bases] == [ast.dump(node)]


def imports(file):
    for node in file.all(ast.ImportFrom):
        if node not in file.tree.body:
            yield "L2: an import stands elsewhere"
        if node.level or not (node.module or "").startswith("tiewood.") or node.names[0].name == "*":
            yield "L2: an import"
            continue
        drawn = file.package.get(node.module.split(".", 1)[1])
        for alias in node.names:
            if len(file.package) > 1 and (not drawn or alias.name in drawn.imported or
                                          alias.name not in drawn.top_names()):
                yield "L16: not from the file that defines it: " + alias.name


def is_plain(node, functions):
    if isinstance(node, (ast.List, ast.Tuple)):
        return all(is_plain(each, functions) for each in node.elts)
    if isinstance(node, ast.Dict):
        return all(is_plain(each, functions) for each in node.keys + node.values)
    if isinstance(node, ast.UnaryOp) and isinstance(node.op, ast.USub):
        return is_written(node.operand, int)
    return is_written(node) or isinstance(node, ast.Name) and node.id in functions


def tops(file):
    functions = []
    for k, node in enumerate(file.tree.body):
        docstring = k == 0 and isinstance(node, ast.Expr) and is_written(node.value, str)
        if not docstring and not isinstance(node, (ast.ImportFrom, ast.FunctionDef, ast.ClassDef, ast.Assign)):
            yield "L3: at the top of the file"
        if isinstance(node, ast.FunctionDef):
            functions.append(node.name)
        if isinstance(node, ast.Assign):
            within = isinstance(node.value, (ast.List, ast.Tuple, ast.Dict))
            if not isinstance(node.targets[0], ast.Name) or not is_plain(node.value, functions if within else ()):
                yield "L3: no plain value"
    names = file.top_names()
    if len(names) != len(set(names)):
        yield "L15: a name is bound twice at the top of the file"
    for node in file.all(ast.ClassDef):
        if node not in file.tree.body:
            yield "L15: a class stands elsewhere"


def functions(file):
    for node in file.all(ast.FunctionDef, ast.Lambda):
        given = node.args
        if given.vararg or given.kwarg or given.kwonlyargs or given.posonlyargs:
            yield "L4: the parameters of a function"
        if not all(is_plain(each, ()) and not isinstance(each, (ast.List, ast.Dict)) for each in given.defaults):
            yield "L4: a default"
        if any(each.annotation for each in given.args):
            yield "L21: an annotation"
    for node in file.all(ast.FunctionDef):
        if node.end_lineno - node.lineno >= 40:
            yield "L10: the function is too long: " + node.name
        if node.decorator_list:
            yield "L4: a decorator"
        if node.returns:
            yield "L21: an annotation"


def classes(file):
    for node in file.all(ast.ClassDef):
        bases = [base.id if isinstance(base, ast.Name) else None for base in node.bases]
        if node.decorator_list or node.keywords or len(bases) > 1:
            yield "L5: the class " + node.name
        if not set(bases) <= file.classes() | ERRORS:
            yield "L5: the base of the class " + node.name
        if set(bases) & {"StopIteration", "AttributeError"}:
            yield "L18: the base of the class " + node.name
        if not all(isinstance(row, (ast.FunctionDef, ast.Pass)) for row in node.body):
            yield "L5: the body of the class " + node.name
        names = [row.name for row in node.body if isinstance(row, ast.FunctionDef)]
        if len(names) != len(set(names)):
            yield "L18: a method stands twice"
    for name in set(file.methods()) & file.package_values() | set(file.values()) & file.package_methods():
        yield "L18: a method and a value: " + name
    for name in file.methods():
        if name != "__init__" and (name.startswith("__") or name in PYTHONS_OWN - METHODS - {"add", "discard"}):
            yield "L26, L28: the method " + name
    for name in file.values():
        if name in (PYTHONS_OWN | {"args"}) - VALUES:
            yield "L26: the value " + name


def uses_of_classes(file):
    for node in file.all(ast.Name):
        if node.id in file.classes() and isinstance(node.ctx, ast.Load):
            above = file.above[node]
            called = isinstance(above, ast.Call) and above.func is node or is_call_of_base(file, node)
            if not (called or isinstance(above, ast.ClassDef) or is_asked_by_isinstance(file, node)
                    or is_taken_by_except(file, node)):
                yield "L18: the class " + node.id
    for node in file.all(ast.Attribute):
        if isinstance(node.ctx, ast.Store) and isinstance(node.value, ast.Name) and node.value.id in file.top_names():
            yield "L18: a value is given to " + node.value.id


def statements(file):
    for node in file.nodes:
        kind = node.__class__.__name__
        if kind not in NODES:
            yield "L6, L7: " + kind
        if isinstance(node, (ast.For, ast.While)) and node.orelse:
            yield "L6: else behind a loop"
        elif isinstance(node, ast.Try) and node.finalbody:
            yield "L6: finally"
        elif isinstance(node, ast.Assign) and len(node.targets) != 1:
            yield "L6: several targets"
        elif isinstance(node, ast.Expr) and not isinstance(node.value, ast.Call):
            if not (node in file.tree.body[:1] and is_written(node.value, str)):
                yield "L6: an expression by itself"


def expressions(file):
    for node in file.nodes:
        if isinstance(node, ast.ListComp) and (len(node.generators) > 1 or len(node.generators[0].ifs) > 1):
            yield "L7: a list comprehension"
        elif isinstance(node, ast.Constant) and not (node.value is None or isinstance(node.value, (int, str))):
            yield "L7: a value"
        elif isinstance(node, ast.FormattedValue):
            if not isinstance(node.value, ast.Name) or node.conversion not in (-1, ord("r")) or node.format_spec:
                yield "L7: an f-string"
        elif isinstance(node, ast.Compare):
            for op, right in zip(node.ops, node.comparators):
                if isinstance(op, (ast.Is, ast.IsNot)) and not is_written(right, (bool, type(None))):
                    yield "L20: is"
    lambdas = [(node.lineno, ast.dump(node.args)) for node in file.all(ast.Lambda)]
    if len(lambdas) != len(set(lambdas)):
        yield "L13: two lambdas on one line"


def names(file):
    bound = set(file.top_names()) | set(file.local_names())
    kept = bound | set(file.methods()) | set(file.values())
    for name in kept - {"__init__"}:
        if not re.fullmatch(r"[A-Za-z][A-Za-z0-9_]*", name):
            yield "L12: the name " + name
    for name in kept | {node.attr for node in file.all(ast.Attribute)}:
        if name in UNUSED or FRAMES.fullmatch(name):
            yield "L17: the name " + name
    for name in bound & UNUSED_NAMES:
        yield "L17: the name " + name
    for name in bound & set(dir(builtins)):
        yield "L15: a name of Python's own: " + name
    for name in set(file.local_names()) & (set(file.imported) | {node.name for node in file.all(ast.ClassDef)}):
        yield "L15: called like a class or an import: " + name
    for node in file.all(ast.Name):
        if node.id not in bound | FUNCTIONS | ERRORS:
            yield "L8: the name " + node.id
    for node in file.all(ast.Attribute):
        if node.attr.startswith("_") and node.attr != "__init__":
            yield "L8, L12: the attribute " + node.attr


def kept_at_the_top(file):
    kept = {}
    for node in file.tree.body:
        if isinstance(node, ast.Assign) and isinstance(node.value, (ast.List, ast.Dict)):
            kept[node.targets[0].id] = True
        if isinstance(node, ast.Assign):
            below = [each for each in ast.walk(node.value) if each is not node.value]
            if any(isinstance(each, (ast.List, ast.Dict)) for each in below):
                yield "L15: a list or dict within another at the top of the file"
    for node in file.all(ast.Name):
        if node.id in kept and isinstance(node.ctx, ast.Load):
            above = file.above[node]
            if not (isinstance(above, ast.Subscript) and isinstance(above.ctx, ast.Load)
                    or isinstance(above, (ast.For, ast.comprehension, ast.Compare))
                    or isinstance(above, ast.Attribute) and above.attr in READING_METHODS
                    or is_handed_to(file, node, READ_BY)):
                yield "L15: not only read: " + node.id


def refusals(file):
    caught = {"ValueError", "LookupError", "IndexError"}
    for node in file.all(ast.Raise):
        if called_name(node.exc) not in file.classes() | ERRORS:
            yield "L19: raise makes its error on the spot"
        if node.cause and not is_written(node.cause, type(None)) and not isinstance(node.cause, ast.Name):
            yield "L19: raise from"
    for node in file.all(ast.Try):
        kinds = [each for handler in node.handlers for each in (
            handler.type.elts if isinstance(handler.type, ast.Tuple) else [handler.type])]
        taken = {each.id if isinstance(each, ast.Name) else None for each in kinds}
        if not taken <= file.classes() | ERRORS - {"Exception", "TypeError"}:
            yield "L19: what is taken"
        if taken & caught and (len(node.body) > 1 or not is_bare(node.body[0], taken)):
            yield "L19: not in a try of its own"


def is_bare(row, taken):
    free = set() if "IndexError" in taken else {"int", "str", "index", "remove"}
    for node in ast.walk(row):
        if isinstance(node, ast.Call) and (called_name(node) or called_method(node)) not in free:
            return False
        if isinstance(node, (ast.JoinedStr, ast.Mult, ast.Pow, ast.Mod, ast.LShift, ast.RShift, ast.Slice, ast.Lambda)):
            return False
    return True


def pythons_own(file):
    for node in file.all(ast.Name):
        above = file.above[node]
        if node.id in FUNCTIONS and not (isinstance(above, ast.Call) and above.func is node):
            as_key = isinstance(above, ast.keyword) and above.arg == "key" and node.id in KEYS
            if not as_key and not (node.id in KINDS and is_asked_by_isinstance(file, node)):
                yield "L22: kept as a value: " + node.id
    for node in file.all(ast.Call):
        name = called_name(node)
        own = name in FUNCTIONS | ERRORS | file.classes() & error_classes(file) or called_method(node) in METHODS
        for keyword in node.keywords:
            if own and keyword.arg not in KEYWORDS.get(name, ()):
                yield "L22: the keyword " + str(keyword.arg)
            if own and keyword.arg in ("reverse", "strict") and not is_written(keyword.value, bool):
                yield "L22: no written truth"
        if name == "isinstance" and not asks_known_kinds(file, node):
            yield "L22: isinstance"


def error_classes(file):
    told = set(ERRORS)
    every = [node for each in file.package.values() for node in each.all(ast.ClassDef) if node.bases]
    for turn in every:
        told |= {node.name for node in every if isinstance(node.bases[0], ast.Name) and node.bases[0].id in told}
    return told


def asks_known_kinds(file, node):
    if len(node.args) != 2 or node.keywords:
        return False
    kinds = node.args[1].elts if isinstance(node.args[1], ast.Tuple) else [node.args[1]]
    return all(isinstance(kind, ast.Name) and kind.id in KINDS | ERRORS | file.classes() for kind in kinds)


def is_walker(node):
    return called_name(node) in WALKERS or called_method(node) in WALKING_METHODS


def walks(file):
    for node in file.all(ast.Call):
        above = file.above[node]
        walked = isinstance(above, (ast.For, ast.comprehension)) and above.iter is node
        alone = is_handed_to(file, node, {"min", "max"}) and len(above.args) == 1
        joins = called_method(above) == "join" and is_written(above.func.value, str)
        if is_walker(node) and not (walked or alone or joins or is_handed_to(file, node, WALKED_BY)):
            yield "L23: not walked on the spot"
    for node in file.all(ast.For):
        walked = [ast.dump(each) for each in walked_by(node.iter)]
        for below in [each for row in node.body for each in ast.walk(row)]:
            store = isinstance(below, ast.Subscript) and isinstance(below.ctx, ast.Store)
            if store and ast.dump(below.value).replace("Store()", "Load()") in walked:
                yield "L23: changed in its own loop"
            if called_method(below) in CHANGES and ast.dump(below.func.value) in walked:
                yield "L23: changed in its own loop"


def walked_by(node):
    if called_name(node) in ("enumerate", "zip", "reversed"):
        return [below for each in node.args for below in walked_by(each)]
    return [node.func.value] if called_method(node) in WALKING_METHODS else [node]


def is_set(node):
    if isinstance(node, ast.BinOp) and isinstance(node.op, (ast.Sub, ast.BitAnd, ast.BitOr, ast.BitXor)):
        return is_set(node.left) or is_set(node.right)
    return isinstance(node, ast.Set) or called_name(node) in ("set", "frozenset")


def sets(file):
    for node in filter(is_set, file.nodes):
        above = file.above[node]
        if not file.within(node, (ast.FunctionDef, ast.Lambda)):
            yield "L7: a set outside a function"
        asked = isinstance(above, ast.Compare) and isinstance(above.ops[0], (ast.In, ast.NotIn))
        alike = isinstance(above, ast.Compare) and isinstance(above.ops[0], (ast.Eq, ast.NotEq))
        alike = alike and is_set(above.left) and is_set(above.comparators[0])
        handed = is_handed_to(file, node, {"sorted", "len"}) and not above.keywords
        if not (is_set(above) and isinstance(above, ast.BinOp) or asked or alike or handed):
            yield "L24: a set"
        if isinstance(node, ast.Set) and len(node.elts) > 2 and not asked:
            yield "L13: a set written out"


def methods(file):
    own = file.package_methods()
    for node in file.all(ast.Attribute):
        above = file.above[node]
        called = isinstance(above, ast.Call) and above.func is node
        as_key = isinstance(above, ast.keyword) and above.arg == "key"
        if called and node.attr not in METHODS | own | {"__init__"}:
            yield "L25: the method " + node.attr
        if isinstance(node.ctx, ast.Load) and not called and not as_key:
            if node.attr in (METHODS | own) - file.package_values():
                yield "L25: handed on: " + node.attr


def numbers_and_texts(file):
    for node in file.nodes:
        if is_written(node, str) and "%" in node.value:
            yield "L27: the sign for hundredths in a text"
        elif is_written(node, int) and abs(node.value) >= 10 ** 900:
            yield "L27: a long number"
        elif isinstance(node, (ast.BinOp, ast.AugAssign)) and isinstance(node.op, ast.Pow):
            right = node.right if isinstance(node, ast.BinOp) else node.value
            if not is_written(right, int) or right.value not in range(65):
                yield "L27: an exponent that is not written"
    if re.sub(r"\\[nt\\'\"]", "", file.text).count("\\"):
        yield "L27: an escape"


def begins(file):
    for node in file.all(ast.FunctionDef):
        if node.name == "__init__":
            if any(isinstance(each, ast.Return) and each.value for each in ast.walk(node)):
                yield "L28: __init__ gives something back"


def signs(file):
    if not all(" " <= sign <= "~" or sign == "\n" for sign in file.text):
        yield "L14: a sign that is not allowed"
    lines = file.text.splitlines()
    if len(lines) > 400 or any(len(line) > 120 for line in lines):
        yield "L10: a file or a line is too long"
    if WORDS.search(file.text):
        yield "L17: the word " + WORDS.search(file.text).group()


RULES = (
    imports, tops, functions, classes, uses_of_classes, statements, expressions, names, kept_at_the_top, refusals,
    pythons_own, walks, sets, methods, numbers_and_texts, begins, signs,
)


def faults(file):
    return [fault for rule in RULES for fault in rule(file)]


def package_paths():
    return sorted(path for path in PACKAGE.rglob("*") if "__pycache__" not in path.parts)


def package_files():
    package = {}
    for path in package_paths():
        package[path.stem] = File(path.read_text("utf-8"), package)
    for file in package.values():
        file.package = package
    return package


OUTSIDE = {
    "L2": ("from time import time", "from tiewood.places import *", "from .places import top",
           "def f():\n    from tiewood.places import top\n    return top(1)"),
    "L3": ("if 1:\n    pass", "x = f(1)", "x = 1 + 2", "for x in (1, 2):\n    pass"),
    "L4": ("def f(*a):\n    pass", "def f(**a):\n    pass", "def f(*, a):\n    pass", "def f(a=[]):\n    pass",
           "def g(f):\n    return f\n\n\n@g\ndef f():\n    pass"),
    "L5": ("class A:\n    x = 1", "class A(int):\n    pass",
           "class A:\n    pass\n\n\nclass B(A, ValueError):\n    pass"),
    "L6": ("import random", "def f(a):\n    yield a", "def f(a):\n    del a", "def f(a):\n    a = b = 1",
           "def f(a):\n    assert a", "def f(a):\n    for b in a:\n        pass\n    else:\n        pass",
           "def f(a):\n    try:\n        a()\n    finally:\n        a()", "def f(a):\n    a + 1",
           "def f():\n    global x\n    x = 1", "def f(a):\n    with a:\n        pass"),
    "L7": ("x = 1.5", "def f(a):\n    return {b for b in a}", "def f(a):\n    return a / 2", "x = b'a'",
           "def f(a):\n    return {b: 1 for b in a}", "def f(a):\n    return (b := a)", "def f(a):\n    return [*a]",
           "def f(a):\n    return [c for b in a for c in b]", "def f(a):\n    return f'{a + 1}'",
           "def f(a):\n    return f'{a:>3}'", "x = {1, 2}"),
    "L8": ("print(1)", "def f(a):\n    return open(a)", "def f(a):\n    return chr(a)",
           "def f(a):\n    return a.__dict__", "def f(a):\n    return hash(a)"),
    "L10": ("def f(a):\n" + "    a += 1\n" * 40, "# " + "a" * 120, "# a\n" * 401),
    "L12": ("def _f(a):\n    return a", "def f(_):\n    return 1",
            "class A:\n    def __init__(self):\n        self._a = 1"),
    "L13": ("def f(a):\n    return len({1, 2, 3})", "def f(a):\n    return (lambda b: b)((lambda b: a)(1))"),
    "L14": ("# \u00e9", "def f(a):\n\treturn a"),
    "L15": ("x = 1\nx = 2", "def f(id):\n    return id", "def f():\n    class A:\n        pass\n    return A()",
            "x = [[1], 2]", "x = {}\n\n\ndef f(a):\n    x[a] = 1", "x = [1]\n\n\ndef f():\n    x.append(1)",
            "x = [1]\n\n\ndef f():\n    return x", "from tiewood.places import top\n\n\ndef f(top):\n    return top",
            "class A:\n    pass\n\n\ndef f(A):\n    return 1"),
    "L17": ("# an enum", "def f(os):\n    return os", "def f(a):\n    return a.tb_next",
            "def register(a):\n    return a"),
    "L18": ("class A:\n    pass\n\n\ndef f():\n    return A", "class A:\n    pass\n\n\ndef f():\n    A.x = 1",
            "class A:\n    def b(self):\n        pass\n\n\nclass C:\n    def __init__(self):\n        self.b = 1",
            "class A(StopIteration):\n    pass",
            "class A:\n    pass\n\n\nclass B:\n    def __init__(self):\n        A.__init__(self)",
            "class A:\n    def b(self):\n        pass\n\n    def b(self):\n        pass"),
    "L19": ("def f(a):\n    try:\n        a()\n    except Exception:\n        pass", "def f(e):\n    raise e",
            "def f(a):\n    try:\n        a()\n    except ValueError:\n        pass",
            "def f(a):\n    try:\n        a()\n    except:\n        pass", "def f():\n    raise ValueError",
            "def f(a):\n    try:\n        return a[1:]\n    except IndexError:\n        pass"),
    "L20": ("def f(a, b):\n    return a is b", "def f(a):\n    return a is 'b'"),
    "L21": ("def f(a: int):\n    return a", "def f(a) -> int:\n    return a"),
    "L22": ("def f(a):\n    return [len, a]", "def f(a):\n    return sorted(a, key=repr)",
            "def f(a):\n    return int(a, base=2)", "def f(a, b):\n    return sorted(a, reverse=b)",
            "def f(a):\n    return isinstance(a, set)", "def f(a):\n    return 'a b'.split(maxsplit=1)",
            "def f(a):\n    raise ValueError(a=1)"),
    "L23": ("def f(a):\n    b = zip(a, a)\n    return b", "def f(a):\n    return a.items()",
            "def f(a):\n    for b in a:\n        a.append(b)",
            "def f(a):\n    for b, c in enumerate(a):\n        a[b] = 1",
            "def f(a):\n    for b, c in a.items():\n        a.pop(b)", "def f(a):\n    return 1 in range(a)"),
    "L24": ("def f(a):\n    b = set(a)\n    return b", "def f(a):\n    for b in set(a):\n        pass",
            "def f(a):\n    return set(a) == a", "def f(a):\n    return sorted(set(a), reverse=True)",
            "def f(a):\n    return list(set(a))"),
    "L25": ("def f(a):\n    a.sort()", "def f(a):\n    return a.pop", "def f(a):\n    return a.title()"),
    "L26": ("class A:\n    def sort(self):\n        pass", "class A:\n    def __init__(self):\n        self.items = 1",
            "class A:\n    def __hash__(self):\n        return 1"),
    "L27": ("def f(n):\n    return 2 ** n", "x = 'a % b'", "x = '\\x41'", "def f(n):\n    return n ** 65",
            "def f(n):\n    n **= n\n    return n"),
    "L28": ("class A:\n    def __init__(self):\n        return None",
            "class A:\n    def __eq__(self, other):\n        return True"),
}
INSIDE = (
    '"""Words."""\n\nfrom tiewood.places import top\n\nx = 1\ny = [1, (2, -3)]\n\n\n'
    'def f(a, b=None):\n    return top(a) + y[0]',
    "class A(ValueError):\n    pass\n\n\ndef f(a):\n    try:\n        return int(a)\n    except ValueError as e:\n"
    "        raise A('words') from e",
    "class A:\n    def __init__(self, n):\n        self.count = n\n        self.rows = [[] for row in range(n)]\n\n"
    "    def add(self, a):\n        self.rows[a].append(a)\n        self.count += 1",
    "class A:\n    def __init__(self, n):\n        self.count = n\n\n\nclass B(A):\n"
    "    def __init__(self, n):\n        A.__init__(self, n)",
    "def f(a):\n    told = {}\n    for b, c in enumerate(a):\n        told[c] = b\n"
    "    return sorted(told, key=lambda b: told[b])",
    "def f(a, b):\n    return len(set(a)) == 2 and set(a) == set(b) and a[0] in set(b) "
    "and sorted(set(a) - set(b)) == []",
    "def f(a):\n    return ' '.join([str(b) for b in a if b is not None]) + f'{a} {a!r}' if a else '\\n'",
    "def f(a):\n    return isinstance(a, (int, str)) and 2 ** 3 and max(a, key=len, default=0) and a in {1, 2, 3}",
)


class Form(unittest.TestCase):
    def test_the_folder_holds_plain_files_alone(self):
        self.assertIn(PACKAGE / "__init__.py", package_paths())
        barred = {"test", "tests", "testing", "site", "conftest", "sitecustomize", "usercustomize"} | set(dir(builtins))
        for path in package_paths():
            with self.subTest(path=path.name):
                self.assertTrue(path.is_file())
                self.assertRegex(path.name, r"^(__init__|[a-z][a-z0-9_]*)\.py$")
                self.assertFalse(path.stem in barred or path.stem.startswith("test_") or WORDS.search(path.stem))

    def test_each_file_keeps_to_the_rules(self):
        for name, file in package_files().items():
            with self.subTest(name=name):
                self.assertEqual(faults(file), [])

    def test_init_binds_no_name_of_a_file(self):
        package = package_files()
        self.assertFalse(set(package["__init__"].top_names()) & set(package))

    def test_no_two_files_draw_from_one_another(self):
        drawn = {
            name: {row.module.split(".", 1)[1] for row in file.all(ast.ImportFrom)}
            for name, file in package_files().items()
        }
        self.assertEqual(drawn["__init__"], set())
        while drawn:
            free = [name for name in drawn if not drawn[name] & set(drawn)]
            self.assertTrue(free, drawn)
            drawn = {name: drawn[name] for name in drawn if name not in free}

    def test_code_outside_the_rules_is_seen(self):
        for rule, texts in OUTSIDE.items():
            for text in texts:
                with self.subTest(rule=rule, text=text):
                    told = [fault.split(":")[0].split(", ") for fault in faults(File(text))]
                    self.assertTrue(any(rule in each for each in told), told)

    def test_an_import_from_a_file_that_does_not_define_it_is_seen(self):
        package = {"one": File("def f():\n    pass"), "two": File("from tiewood.one import f")}
        for text in ("from tiewood.two import f", "from tiewood.one import g", "from tiewood.three import f"):
            self.assertTrue(any("L16" in fault for fault in faults(File(text, package))), text)
        self.assertEqual(faults(File("from tiewood.one import f", package)), [])

    def test_code_within_the_rules_is_let_through(self):
        for text in INSIDE:
            with self.subTest(text=text):
                self.assertEqual(faults(File(text)), [])


if __name__ == "__main__":
    unittest.main()
