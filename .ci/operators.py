"""Look whether operators, properties and what they call change nothing and call nothing that they hold (L5, L28).

Names are taken as they stand, wherever they are defined: a call of `run` is one of each function and method `run`.
"""

import ast
import pathlib
import sys

PACKAGE = "leastrooms"
OPERATORS = set("""
__eq__ __repr__ __str__ __len__ __lt__ __le__ __gt__ __ge__ __ne__ __add__ __sub__ __mul__ __floordiv__ __mod__ __pow__
__and__ __or__ __xor__ __lshift__ __rshift__ __neg__ __pos__ __invert__ __abs__ __bool__ __contains__ __getitem__
""".split())
CHANGING = set("append clear extend insert pop remove reverse setdefault update add discard sort".split())


class Package:
    """The functions, classes, methods and stored attributes of all files, by name."""

    def __init__(self, trees):
        self.functions = {}
        self.classes = {}
        self.methods = {}
        self.stored = set()
        for path, tree in trees.items():
            for node in tree.body:
                if isinstance(node, ast.FunctionDef):
                    self.functions.setdefault(node.name, []).append((path, node))
                if isinstance(node, ast.ClassDef):
                    self.classes.setdefault(node.name, []).append((path, node))
                    for inner in node.body:
                        if isinstance(inner, ast.FunctionDef):
                            self.methods.setdefault(inner.name, []).append((path, inner))
            for node in ast.walk(tree):
                if isinstance(node, ast.Attribute) and not isinstance(node.ctx, ast.Load):
                    self.stored.add(node.attr)

    def begun_by(self, name):
        """What a call of a class by its name runs: its __init__ and those of its bases."""
        found = []
        for path, node in self.classes.get(name, []):
            found.extend((path, inner) for inner in node.body if getattr(inner, "name", None) == "__init__")
            for base in node.bases:
                found.extend(self.begun_by(getattr(base, "id", None)))
        return found

    def roots(self):
        """The operators and properties."""
        for told in self.methods.values():
            for path, method in told:
                if method.name in OPERATORS or "property" in [getattr(word, "id", None) for word in method.decorator_list]:
                    yield path, method


def is_new(value):
    """Whether an expression surely is a list, dict or set that nobody else has."""
    if isinstance(value, (ast.List, ast.Dict, ast.Set, ast.ListComp, ast.DictComp, ast.SetComp)):
        return True
    if isinstance(value, ast.Call) and isinstance(value.func, ast.Name):
        return value.func.id in {"list", "dict", "set", "sorted"}
    if isinstance(value, ast.Subscript):
        return isinstance(value.slice, ast.Slice)
    if isinstance(value, ast.BinOp) and isinstance(value.op, ast.Add):
        return is_new(value.left) and is_new(value.right)
    return isinstance(value, ast.BinOp) and isinstance(value.op, ast.Mult) and isinstance(value.left, ast.List)


def assigned_in(function):
    """A dict from each local variable to all that it is assigned, None where that is no value on its own."""
    found = {}
    for node in ast.walk(function):
        if isinstance(node, ast.Assign):
            for target in node.targets:
                if isinstance(target, ast.Name):
                    found.setdefault(target.id, []).append(node.value)
    plain = {id(target) for node in ast.walk(function) if isinstance(node, ast.Assign) for target in node.targets}
    for node in ast.walk(function):
        if isinstance(node, ast.Name) and not isinstance(node.ctx, ast.Load) and id(node) not in plain:
            found.setdefault(node.id, []).append(None)
    return found


class Look:
    """What one function changes and calls."""

    def __init__(self, package, function):
        self.package = package
        self.function = function
        self.parameters = [told.arg for told in ast.walk(function.args) if isinstance(told, ast.arg)]
        self.assigned = assigned_in(function)

    def is_made(self, node, is_right):
        """Whether a node is a local variable all of whose values are right."""
        if not isinstance(node, ast.Name) or node.id in self.parameters:
            return False
        return all(value is not None and is_right(value) for value in self.assigned.get(node.id, [None]))

    def is_own_call(self, value):
        return isinstance(value, ast.Call) and getattr(value.func, "id", None) in self.package.classes

    def faults(self):
        for node in ast.walk(self.function):
            if isinstance(node, (ast.Yield, ast.YieldFrom)):
                yield node.lineno, "a generator"
            elif isinstance(node, ast.AugAssign):
                yield node.lineno, "an assignment with a sign"
            elif isinstance(node, ast.Attribute) and not isinstance(node.ctx, ast.Load):
                is_own = self.function.name == "__init__" and getattr(node.value, "id", None) == self.parameters[0]
                if not is_own and not self.is_made(node.value, self.is_own_call):
                    yield node.lineno, f"changes {ast.unparse(node)}"
            elif isinstance(node, ast.Subscript) and not isinstance(node.ctx, ast.Load):
                if not self.is_made(node.value, is_new):
                    yield node.lineno, f"changes {ast.unparse(node)}"
            elif isinstance(node, ast.Call):
                yield from self.faults_of_call(node.func)

    def faults_of_call(self, called):
        if isinstance(called, ast.Name):
            if called.id in self.parameters or called.id in self.assigned:
                yield called.lineno, f"calls {called.id}"
        elif not isinstance(called, ast.Attribute) or called.attr in self.package.stored:
            yield called.lineno, f"calls {ast.unparse(called)}"
        elif called.attr in CHANGING and not self.is_made(called.value, is_new):
            yield called.lineno, f"changes {ast.unparse(called.value)}"

    def called(self):
        """The functions and methods of the package that this calls."""
        for node in ast.walk(self.function):
            if isinstance(node, ast.Call) and isinstance(node.func, ast.Name):
                yield from self.package.functions.get(node.func.id, [])
                yield from self.package.begun_by(node.func.id)
            if isinstance(node, ast.Call) and isinstance(node.func, ast.Attribute):
                yield from self.package.methods.get(node.func.attr, [])


def main():
    trees = {path: ast.parse(path.read_text(encoding="utf-8")) for path in sorted(pathlib.Path(PACKAGE).glob("*.py"))}
    package = Package(trees)
    many = 0
    reached = {}
    waiting = [(path, function, f"{path.stem}.{function.name}") for path, function in package.roots()]
    while waiting:
        path, function, root = waiting.pop()
        if id(function) in reached:
            continue
        reached[id(function)] = True
        look = Look(package, function)
        for number, fault in look.faults():
            many += 1
            print(f"{path}:{number}: L5 {root} runs {function.name}, which is or does what it may not: {fault}")
        waiting.extend((further, inner, root) for further, inner in look.called())
    return 1 if many else 0


if __name__ == "__main__":
    sys.exit(main())
