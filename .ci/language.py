"""Look whether the files of the package keep to those rules of LANGUAGE.md that their text shows."""

import ast
import builtins
import pathlib
import re
import sys
import warnings

PACKAGE = "leastrooms"
ALLOWED = set("""
len range enumerate zip min max sum abs sorted reversed int str bool list tuple dict set isinstance ord repr any all
divmod pow map Exception ValueError TypeError KeyError IndexError LookupError ZeroDivisionError ArithmeticError
OverflowError RuntimeError NotImplementedError AttributeError StopIteration NotImplemented
""".split())
METHODS = set("""
__init__ __eq__ __repr__ __str__ __len__ __enter__ __exit__ __call__ __iter__ __lt__ __le__ __gt__ __ge__ __ne__
__add__ __sub__ __mul__ __floordiv__ __mod__ __pow__ __and__ __or__ __xor__ __lshift__ __rshift__ __neg__ __pos__
__invert__ __abs__ __bool__ __contains__ __getitem__ __setitem__
""".split())
DECORATORS = {"property", "staticmethod", "classmethod"}
BARRED = set("""
register mro elements open input law version_info with_traceback add_note attrgetter breakpoint builtins compile
copyright credits delattr dir eval exec exit gc globals help id importlib license locals methodcaller os quit vars
""".split())
BARRED_WORDS = re.compile(
    r"\b(type|typing|typing_extensions|enum|Enum|IntEnum|StrEnum|Flag|IntFlag|Generic|Protocol|ABC|ABCMeta|namedtuple|"
    r"NamedTuple|TypedDict|TYPE_CHECKING|abstractmethod)\b|dataclass|overload|contextmanager|_wall|_WallAttr|"
    r"\(type\)|Meta|metaclass="
)
STATEMENTS = (
    ast.Assign, ast.AugAssign, ast.If, ast.While, ast.For, ast.Return, ast.Break, ast.Continue, ast.Pass, ast.Raise,
    ast.Assert, ast.Delete, ast.Nonlocal, ast.With, ast.Try, ast.Expr, ast.FunctionDef,
)
LIBRARY = {
    "math": {"gcd", "lcm", "isqrt", "comb", "perm", "factorial"},
    "heapq": {"heappush", "heappop", "heapify", "heapreplace", "heappushpop"},
}
OF_BUILTINS = {name for kind in (str, int, list, dict, set, bytes) for name in dir(kind) if not name.startswith("_")}
# L26: methods may have these names of methods of builtin values.
FREE_METHODS = {"add", "copy", "count", "discard", "find", "index", "get", "join", "split", "strip"}
# L26: attributes may have these names of methods of builtin values.
FREE_ATTRIBUTES = set("count index title find get join lower upper split strip copy add".split())
# L5: what reversed takes where a class has [ ].
REVERSED = {"list", "tuple", "sorted", "range"}
FOLDING = {"any", "all", "min", "max", "sum", "sorted"}


def faults_of_text(text):
    """Faults that the lines show."""
    lines = text.split("\n")
    if len(lines) - 1 > 399:
        yield 1, "L10 more than 399 lines"
    for number, line in enumerate(lines, 1):
        if len(line) > 120:
            yield number, "L10 a line of more than 120 characters"
        if [sign for sign in line if not " " <= sign <= "~"]:
            yield number, "L14 a character that is not allowed"


def faults_of_module(tree):
    """Faults of what stands outside of functions."""
    names = []
    for place, node in enumerate(tree.body):
        if isinstance(node, ast.ImportFrom):
            names.extend(alias.name for alias in node.names)
            told = {alias.name for alias in node.names}
            if node.level or "*" in told or [alias for alias in node.names if alias.asname]:
                yield node.lineno, "L2 an import of another form"
            if not (node.module or "").startswith(PACKAGE + ".") and not told <= LIBRARY.get(node.module, set()):
                yield node.lineno, "L2 an import from elsewhere"
        elif isinstance(node, (ast.FunctionDef, ast.ClassDef)):
            names.append(node.name)
        elif isinstance(node, ast.Assign) and len(node.targets) == 1 and isinstance(node.targets[0], ast.Name):
            names.append(node.targets[0].id)
        elif not (place == 0 and isinstance(node, ast.Expr) and isinstance(node.value, ast.Constant)):
            yield node.lineno, "L3 not allowed at module level"
    for name in sorted({name for name in names if names.count(name) > 1}):
        yield 1, f"L15 {name} is bound twice"


def faults_of_node(node):
    """Faults of one part of the code."""
    if isinstance(node, (ast.FunctionDef, ast.AsyncFunctionDef)):
        yield from faults_of_function(node)
    if isinstance(node, ast.stmt) and not isinstance(node, STATEMENTS + (ast.ClassDef, ast.ImportFrom)):
        yield node.lineno, f"L6 {node.__class__.__name__}"
    if isinstance(node, ast.BinOp) and isinstance(node.op, (ast.Div, ast.MatMult)):
        yield node.lineno, "L7 an operator that is not allowed"
    if isinstance(node, ast.BinOp) and isinstance(node.op, ast.Pow):
        if not isinstance(node.right, ast.Constant) or not 0 <= node.right.value <= 64:
            yield node.lineno, "L27 an exponent that is no literal up to 64"
    if isinstance(node, ast.Constant) and isinstance(node.value, (float, complex)):
        yield node.lineno, "L7 a float"
    if isinstance(node, ast.Constant) and isinstance(node.value, str) and "%" in node.value:
        yield node.lineno, "L27 a sign that no string may have"
    if isinstance(node, ast.Compare) and [op for op in node.ops if isinstance(op, (ast.Is, ast.IsNot))]:
        if not [side for side in node.comparators if isinstance(side, ast.Constant)]:
            yield node.lineno, "L20 is"
    if isinstance(node, ast.Call):
        yield from faults_of_call(node)
    if isinstance(node, ast.Name):
        yield from faults_of_name(node)
    if isinstance(node, ast.Attribute) and (node.attr in BARRED or node.attr.startswith("__") and node.attr != "__init__"):
        yield node.lineno, f"L17 {node.attr}"
    if isinstance(node, ast.Attribute) and not isinstance(node.ctx, ast.Load):
        if node.attr in OF_BUILTINS - FREE_ATTRIBUTES | {"args"}:
            yield node.lineno, f"L26 an attribute called {node.attr}"


def faults_of_function(node):
    if node.end_lineno - node.lineno + 1 > 40:
        yield node.lineno, f"L10 {node.name} has more than 40 lines"
    if node.name in BARRED or node.name.startswith("__") and node.name not in METHODS:
        yield node.lineno, f"L5 {node.name}"
    for told in node.decorator_list:
        if not (isinstance(told, ast.Name) and told.id in DECORATORS) and not isinstance(told, ast.Attribute):
            yield node.lineno, "L4 a decorator"
    for told in ast.walk(node.args):
        if isinstance(told, ast.arg) and (hasattr(builtins, told.arg) or told.arg in BARRED):
            yield node.lineno, f"L15 a parameter is called {told.arg}"


def faults_of_call(node):
    if isinstance(node.func, ast.Name) and node.func.id in FOLDING:
        if [given for given in node.args if isinstance(given, ast.GeneratorExp)]:
            yield node.lineno, f"L7 {node.func.id} takes a list where a class has __eq__"
    if isinstance(node.func, ast.Name) and node.func.id == "reversed" and not is_written_out(node.args[0]):
        yield node.lineno, "L23 what reversed is handed"
    if isinstance(node.func, ast.Attribute) and node.func.attr == "sort":
        yield node.lineno, "L25 sort where a class has __eq__"


def is_written_out(given):
    """Whether reversed may take this where a class has [ ]."""
    if isinstance(given, ast.Call):
        return getattr(given.func, "id", None) in REVERSED
    return isinstance(given, (ast.List, ast.Tuple, ast.Constant))


def faults_of_name(node):
    if isinstance(node.ctx, ast.Load):
        if hasattr(builtins, node.id) and node.id not in ALLOWED | DECORATORS:
            yield node.lineno, f"L8 {node.id}"
        if node.id == "_":
            yield node.lineno, "L12 _ is read"
    elif hasattr(builtins, node.id) or node.id in BARRED:
        yield node.lineno, f"L15 {node.id}"


def faults_of_words(text, tree):
    """Faults of words that stand neither in a comment nor in a docstring."""
    lines = text.split("\n")
    for node in ast.walk(tree):
        body = getattr(node, "body", None)
        if isinstance(node, (ast.Module, ast.ClassDef, ast.FunctionDef)) and ast.get_docstring(node) is not None:
            for number in range(body[0].lineno, body[0].end_lineno + 1):
                lines[number - 1] = ""
    for number, line in enumerate(lines, 1):
        if BARRED_WORDS.search(line.split("#")[0]):
            yield number, "L17 a word that is not allowed"


def bound_in(function):
    """The names that a function binds: its parameters and what it assigns."""
    names = {told.arg for told in ast.walk(function.args) if isinstance(told, ast.arg)}
    return names | {node.id for node in ast.walk(function) if isinstance(node, ast.Name) and isinstance(node.ctx, ast.Store)}


def faults_of_names(tree):
    """Faults of names that mean two things in one file."""
    taken = {alias.name for node in tree.body if isinstance(node, ast.ImportFrom) for alias in node.names}
    taken |= {node.name for node in tree.body if isinstance(node, ast.ClassDef)}
    for function in [node for node in ast.walk(tree) if isinstance(node, ast.FunctionDef)]:
        for name in sorted(bound_in(function) & taken):
            yield function.lineno, f"L15 {name} is a class or an import of the file"
    for node in [node for node in tree.body if isinstance(node, ast.ClassDef)]:
        methods = [inner for inner in node.body if isinstance(inner, ast.FunctionDef)]
        stored = {inner.attr for inner in ast.walk(node) if isinstance(inner, ast.Attribute) and isinstance(inner.ctx, ast.Store)}
        for method in methods:
            if method.name in stored:
                yield method.lineno, f"L18 {method.name} is a method and an attribute"
            if method.name in OF_BUILTINS - FREE_METHODS:
                yield method.lineno, f"L26 {method.name} is a method of builtin values"
    used = {alias.name for node in tree.body if isinstance(node, ast.ImportFrom) for alias in node.names}
    used -= {node.id for node in ast.walk(tree) if isinstance(node, ast.Name)}
    for name in sorted(used):
        yield 1, f"{name} is imported and not used"


def methods_of(tree):
    """The names of the methods and properties of the classes of a file."""
    classes = [node for node in tree.body if isinstance(node, ast.ClassDef)]
    return [inner.name for node in classes for inner in node.body if isinstance(inner, ast.FunctionDef)]


def faults_of_both(trees):
    """Faults of names that are methods or properties in one class and attributes in another."""
    stored = {}
    for path, tree in trees.items():
        for node in ast.walk(tree):
            if isinstance(node, ast.Attribute) and isinstance(node.ctx, ast.Store):
                stored.setdefault(node.attr, (path, node.lineno))
    for path, tree in trees.items():
        for name in methods_of(tree):
            if name in stored:
                yield stored[name][0], stored[name][1], f"L18 {name} is a method or a property elsewhere"


def is_generator(function):
    return any(isinstance(node, (ast.Yield, ast.YieldFrom)) for node in ast.walk(function))


def faults_of_generators(trees):
    """Faults of generators: their names are names of nothing else, and each call is iterated at once."""
    functions = [node for tree in trees.values() for node in ast.walk(tree) if isinstance(node, ast.FunctionDef)]
    names = {function.name for function in functions if is_generator(function)}
    for path, tree in trees.items():
        at_once = set()
        for node in ast.walk(tree):
            if isinstance(node, (ast.For, ast.comprehension)):
                at_once.add(id(node.iter))
            if isinstance(node, ast.YieldFrom):
                at_once.add(id(node.value))
            if isinstance(node, ast.Call) and isinstance(node.func, ast.Name) and node.func.id in {"list", "tuple", "sorted"}:
                at_once |= {id(given) for given in node.args}
        for node in ast.walk(tree):
            if isinstance(node, ast.FunctionDef) and node.name in names and not is_generator(node):
                yield path, node.lineno, f"L23 {node.name} is also a generator"
            if isinstance(node, ast.Attribute) and node.attr in names and isinstance(node.ctx, ast.Store):
                yield path, node.lineno, f"L23 {node.attr} is also a generator"
            if isinstance(node, ast.Call) and id(node) not in at_once:
                name = getattr(node.func, "id", getattr(node.func, "attr", None))
                if name in names:
                    yield path, node.lineno, f"L23 {name} is not iterated at once"


def faults_of_file(path):
    text = path.read_text(encoding="utf-8")
    tree = ast.parse(text)
    compile(text, str(path), "exec")
    yield from faults_of_text(text)
    yield from faults_of_module(tree)
    yield from faults_of_words(text, tree)
    yield from faults_of_names(tree)
    for node in ast.walk(tree):
        yield from faults_of_node(node)


def main():
    # L27: no line for which Python itself gives a warning.
    warnings.simplefilter("error")
    many = 0
    for path in sorted(pathlib.Path(PACKAGE).iterdir()):
        if path.name == "__pycache__":
            continue
        if not re.fullmatch(r"[a-z_][a-z0-9_]*\.py", path.name):
            many += 1
            print(f"{path}: L1 the folder contains nothing but files of Python")
            continue
        for number, fault in faults_of_file(path):
            many += 1
            print(f"{path}:{number}: {fault}")
    trees = {path: ast.parse(path.read_text(encoding="utf-8")) for path in sorted(pathlib.Path(PACKAGE).glob("*.py"))}
    for path, number, fault in list(faults_of_generators(trees)) + list(faults_of_both(trees)):
        many += 1
        print(f"{path}:{number}: {fault}")
    return 1 if many else 0


if __name__ == "__main__":
    sys.exit(main())
