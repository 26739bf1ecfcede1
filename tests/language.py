"""Finds code that leaves the subset of Python in which the package is written.

It looks for less than the subset allows: what the package does not use (lambdas, nested functions, with, match,
generator expressions ..) is told as a problem, too.
"""

import ast
import builtins
import os

BUILTINS = {
    "len", "range", "enumerate", "zip", "min", "max", "sum", "abs", "sorted", "reversed", "int", "str", "bool", "list",
    "tuple", "dict", "set", "isinstance", "repr", "any", "all", "divmod", "ValueError", "TypeError", "KeyError",
    "IndexError", "LookupError", "OverflowError", "RuntimeError", "property", "staticmethod", "classmethod",
}
METHODS = {
    "append", "clear", "copy", "count", "endswith", "extend", "find", "get", "index", "insert", "items", "join", "keys",
    "partition", "pop", "remove", "removeprefix", "replace", "reverse", "setdefault", "split", "startswith", "strip",
    "update", "values",
}
CHANGING = {"append", "clear", "extend", "insert", "pop", "remove", "reverse", "setdefault", "update", "sort"}
SPECIAL = {
    "__init__", "__eq__", "__str__", "__len__", "__call__", "__iter__", "__lt__", "__le__", "__gt__", "__ge__", "__or__",
    "__ror__", "__and__", "__rand__", "__contains__", "__getitem__", "__enter__", "__exit__",
}
# The classes whose methods change their own objects, and the special methods that may do so.
CHANGEABLE = {"Proof", "Store", "Shell"}
CHANGING_SPECIAL = {"__init__", "__enter__", "__exit__"}
BANNED_NAMES = {
    "register", "mro", "elements", "open", "input", "law", "version_info", "eval", "exec", "exit", "dir", "vars", "id",
    "help", "compile", "license", "globals", "locals", "super", "os", "sys", "gc", "quit", "copyright", "credits",
}
BANNED_WORDS = {
    "type", "typing", "enum", "Enum", "Flag", "Generic", "Protocol", "ABC", "namedtuple", "dataclass", "overload",
    "contextmanager", "metaclass", "Meta", "_wall", "_WallAttr",
}
NOT_USED = (
    ast.Lambda, ast.With, ast.TryStar, ast.Global, ast.Nonlocal, ast.Match, ast.AsyncFunctionDef, ast.GeneratorExp, ast.SetComp,
    ast.NamedExpr, ast.Await, ast.AnnAssign, ast.Delete, ast.Import, ast.AsyncFor, ast.Div, ast.MatMult,
    ast.AsyncWith, ast.Set,
)
AT_ONCE = {"zip", "enumerate", "range", "reversed"}
VIEWS = {"items", "keys", "values"}
TAKERS = {"list", "tuple", "dict", "sorted", "sum", "any", "all", "enumerate", "zip", "min", "max"}


def package_files(top):
    """Return the paths of all files of the package, sorted."""
    return sorted(os.path.join(folder, name) for folder, _, names in os.walk(top) if "__pycache__" not in folder
                  for name in names)


def problems_of_text(text):
    """Return the problems of the rows of a file."""
    found = []
    lines = text.split("\n")
    if len(lines) > 400:
        found.append("L10: the file has more than 399 lines")
    for number, line in enumerate(lines, 1):
        if len(line) > 120:
            found.append(f"L10: line {number} is too long")
        if any(not " " <= sign <= "~" for sign in line):
            found.append(f"L14: line {number} has another character")
    return found


def called(node, *names):
    """Tell whether a node is a call of a function with one of these names."""
    return isinstance(node, ast.Call) and isinstance(node.func, ast.Name) and node.func.id in names


def plain(node):
    """Tell whether a node plainly is a number or a string."""
    if isinstance(node, ast.BinOp) and isinstance(node.op, (ast.Add, ast.Sub)):
        return plain(node.left) and plain(node.right)
    return called(node, "len", "int", "str") or isinstance(node, (ast.Constant, ast.JoinedStr))


def simple(node):
    """Tell whether a node is what may be assigned in a finally or an __exit__."""
    return isinstance(node, (ast.Name, ast.Constant)) or isinstance(node, ast.Attribute) and simple(node.value)


def asks_for_none(node):
    """Tell whether a node asks whether a name or an attribute is None."""
    return (isinstance(node, ast.Compare) and simple(node.left) and len(node.ops) == 1
            and isinstance(node.ops[0], (ast.Is, ast.IsNot)) and getattr(node.comparators[0], "value", 0) is None)


def only_assigns(rows):
    """Tell whether rows only assign what is simple, also if something is None."""
    for row in rows:
        if isinstance(row, ast.If):
            if not asks_for_none(row.test) or not only_assigns(row.body + row.orelse):
                return False
        elif not isinstance(row, ast.Assign) or len(row.targets) != 1:
            return False
        elif not simple(row.targets[0]) or not simple(row.value):
            return False
    return True


def table_value(node):
    """Tell whether a node is a value of a table at module level: a constant, a function, or a tuple of constants."""
    if isinstance(node, ast.Tuple):
        return all(isinstance(part, ast.Constant) for part in node.elts)
    return isinstance(node, (ast.Constant, ast.Name))


class Reader:
    """Collects the problems of the file that a tree is of.

    The methods are those of all classes of the package, the generators all its functions that yield.
    """

    def __init__(self, tree, methods, generators):
        self.tree = tree
        self.own_methods = methods
        self.generators = generators
        self.found = []
        self.parents = {child: node for node in ast.walk(tree) for child in ast.iter_child_nodes(node)}
        self.imports = {alias.name for node in tree.body if isinstance(node, ast.ImportFrom) for alias in node.names}
        self.classes = {node.name for node in tree.body if isinstance(node, ast.ClassDef)}

    def tell(self, node, words):
        self.found.append(f"{words}, line {getattr(node, 'lineno', 0)}")

    def read(self):
        for node in self.tree.body:
            self.top(node)
        for node in ast.walk(self.tree):
            if isinstance(node, NOT_USED):
                self.tell(node, f"not used in the package: {node.__class__.__name__}")
            for kind, look in (
                (ast.FunctionDef, self.function), (ast.ClassDef, self.class_), (ast.Call, self.call), (ast.Name, self.name),
                (ast.Compare, self.compare), (ast.Raise, self.raised), (ast.Constant, self.constant), (ast.For, self.loop),
                (ast.arg, self.argument), (ast.Starred, self.starred), (ast.Subscript, self.index), (ast.Try, self.tried),
            ):
                if isinstance(node, kind):
                    look(node)
        return self.found

    def top(self, node):
        plain_value = isinstance(node, ast.Assign) and self.plain_value(node.value)
        if plain_value and (len(node.targets) != 1 or not isinstance(node.targets[0], ast.Name)):
            self.tell(node, "L3: several names at once")
        docstring = isinstance(node, ast.Expr) and isinstance(node.value, ast.Constant)
        if not plain_value and not docstring and not isinstance(node, (ast.ImportFrom, ast.FunctionDef, ast.ClassDef)):
            self.tell(node, "L3: not at module level")
        if isinstance(node, ast.ImportFrom):
            if not node.module.startswith("termpaths.") or node.level or any(alias.asname for alias in node.names):
                self.tell(node, "L2: import")

    def plain_value(self, node):
        above = {one.name for one in self.tree.body if isinstance(one, ast.FunctionDef) and one.lineno < node.lineno}
        if any(isinstance(part, ast.Name) and part.id not in above for part in ast.walk(node)):
            return False
        if isinstance(node, ast.Dict):
            return all(isinstance(key, ast.Constant) for key in node.keys) and all(map(table_value, node.values))
        return isinstance(node, (ast.Constant, ast.Tuple)) and table_value(node)

    def tried(self, node):
        for handler in node.handlers:
            # All errors that a file imports are the package's own.
            if not isinstance(handler.type, ast.Name) or handler.type.id not in self.imports:
                self.tell(handler, "L19: an error that is not the package's own")
        if not only_assigns(node.finalbody):
            self.tell(node, "L6: finally")

    def function(self, node):
        if node.name == "__exit__" and not only_assigns(node.body):
            self.tell(node, "L6: __exit__")
        if node.end_lineno - node.lineno + 1 > 40:
            self.tell(node, "L10: the function is too long")
        parent = self.parents[node]
        if not isinstance(parent, (ast.Module, ast.ClassDef)):
            self.tell(node, "a nested function")
        if isinstance(parent, ast.Module) and (node.name.startswith("__") or hasattr(builtins, node.name)):
            self.tell(node, "L15: the name of the function")
        if node.name.startswith("__") and node.name not in SPECIAL:
            self.tell(node, "L5: double underscores")
        if any(not isinstance(one, ast.Name) or one.id not in ("property", "staticmethod", "classmethod")
               for one in node.decorator_list):
            self.tell(node, "L4: decorator")
        if node.args.posonlyargs or any(not isinstance(one, ast.Constant) for one in node.args.defaults):
            self.tell(node, "L4: parameters")
        Changes(self, node).read()

    def class_(self, node):
        if node.decorator_list or node.keywords or len(node.bases) > 1:
            self.tell(node, "L5: class")
        for part in node.body:
            if not isinstance(part, ast.FunctionDef) and not isinstance(part, ast.Expr):
                self.tell(part, "L5: in the body of a class")
        methods = [part.name for part in node.body if isinstance(part, ast.FunctionDef)]
        stored = {part.attr for part in ast.walk(node) if isinstance(part, ast.Attribute) and isinstance(part.ctx, ast.Store)}
        if len(methods) > len(set(methods)) or stored & set(methods):
            self.tell(node, "L18: a name is used twice")
        if "__getitem__" in methods and "__iter__" not in methods:
            self.tell(node, "L5: no __iter__")

    def argument(self, node):
        self.binding(node, node.arg)

    def binding(self, node, name):
        if hasattr(builtins, name) or name in BANNED_NAMES or name in self.imports or name in self.classes:
            self.tell(node, f"L15: the name {name}")
        if name.startswith("__") or not name.isascii():
            self.tell(node, f"L12: the name {name}")

    def name(self, node):
        if isinstance(node.ctx, ast.Store):
            self.binding(node, node.id)
        elif hasattr(builtins, node.id) and node.id not in BUILTINS:
            self.tell(node, f"L8: {node.id}")
        if node.id == "_" and not isinstance(node.ctx, ast.Store):
            self.tell(node, "L12: _ is read")
        if node.id in self.classes and isinstance(node.ctx, ast.Load):
            self.class_name(node)

    def class_name(self, node):
        parent = self.parents[node]
        fine = (isinstance(parent, ast.Call) and (parent.func is node or called(parent, "isinstance"))
                or isinstance(parent, (ast.ClassDef, ast.Attribute)))
        if not fine:
            self.tell(node, "L18: a class is passed on")

    def compare(self, node):
        for operator, right in zip(node.ops, node.comparators):
            if isinstance(operator, (ast.Is, ast.IsNot)):
                if not isinstance(right, ast.Constant) or right.value not in (None, True, False):
                    self.tell(node, "L20: is")

    def raised(self, node):
        if node.cause is not None or not isinstance(node.exc, ast.Call) or not isinstance(node.exc.func, ast.Name):
            self.tell(node, "L19: raise")

    def constant(self, node):
        if isinstance(node.value, (float, complex)):
            self.tell(node, "L7: a number")
        if isinstance(node.value, str):
            parent = self.parents[node]
            if "%" in node.value:
                self.tell(node, "L27: a percent sign")
            words = set("".join(sign if sign.isalnum() or sign == "_" else " " for sign in node.value).split())
            if words & BANNED_WORDS and not isinstance(parent, ast.Expr):
                self.tell(node, "L17: a word in a string")
            if node.value.startswith("__") or node.value.endswith(("._", ".__")):
                self.tell(node, "L27: a string")

    def index(self, node):
        for part in ast.walk(node.slice):
            if isinstance(part, ast.Starred):
                self.tell(part, "L7: a star in an index")

    def starred(self, node):
        parent = self.parents[node]
        if isinstance(parent, ast.Call) and not isinstance(node.value, ast.Name):
            self.tell(node, "L7: a star in a call")
        if called(node.value, *self.generators):
            self.tell(node, "L7: a star over a generator")

    def call(self, node):
        function = node.func
        if isinstance(function, ast.Attribute):
            if function.attr not in METHODS and function.attr not in self.own_methods:
                self.tell(node, f"L25: the method {function.attr}")
            if function.attr in METHODS and node.keywords:
                self.tell(node, "L25: a keyword")
            if function.attr in VIEWS and not self.iterated(node):
                self.tell(node, f"L23: {function.attr} is kept")
            return
        if called(node, *AT_ONCE) and not self.iterated(node):
            self.tell(node, f"L23: {function.id} is kept")
        if called(node, *self.generators):
            if not self.iterated(node):
                self.tell(node, f"L23: {function.id} is kept")
            for part in [inner for one in node.args for inner in ast.walk(one)]:
                if not isinstance(part, (ast.Name, ast.Attribute, ast.Constant, ast.expr_context)):
                    self.tell(node, f"L23: {function.id} is passed something else")
        if called(node, "reversed") and not called(node.args[0], "list", "tuple", "sorted", "range"):
            self.tell(node, "L5: reversed")
        if called(node, "set") and not self.set_place(node):
            self.tell(node, "L24: a set")
        if called(node, "sorted", "min", "max"):
            self.ordered(node)
        if called(node, "sum", "any", "all") and not isinstance(node.args[0], (ast.ListComp, ast.Name)):
            self.tell(node, "L7: not a list")
        if called(node, "isinstance") and not isinstance(node.args[1], ast.Name):
            self.tell(node, "L22: isinstance")
        if called(node, *BUILTINS) and any(keyword.arg not in ("default", "key", "reverse") for keyword in node.keywords):
            self.tell(node, "L22: a keyword")

    def iterated(self, node):
        parent = self.parents[node]
        if isinstance(parent, (ast.For, ast.comprehension)):
            return parent.iter is node
        if isinstance(parent, ast.YieldFrom):
            return called(node, *self.generators)
        if called(parent, "reversed"):
            return called(node, "range")
        return called(parent, *TAKERS) and parent.args[0] is node or called(parent, "len") and called(node, "range")

    def set_place(self, node):
        parent = self.parents[node]
        return called(parent, "sorted", "len") and not parent.keywords or isinstance(parent, ast.Compare)

    def ordered(self, node):
        first = node.args[0]
        if len(node.args) > 1:
            fine = any(plain(one) for one in node.args)
        elif isinstance(first, ast.ListComp):
            fine = plain(first.elt)
        else:
            fine = called(first, "set") and called(node, "sorted")
        if not fine or any(keyword.arg == "key" for keyword in node.keywords):
            self.tell(node, "L5: what is sorted is not plain")

    def loop(self, node):
        names = {part.id for part in ast.walk(node.iter) if isinstance(part, ast.Name)}
        if called(node.iter, "list"):
            names = set()
        for part in [inner for row in node.body for inner in ast.walk(row)]:
            if isinstance(part, ast.Call) and isinstance(part.func, ast.Attribute) and part.func.attr in CHANGING:
                if isinstance(part.func.value, ast.Name) and part.func.value.id in names:
                    self.tell(part, "L23: a loop changes what it goes over")
            if isinstance(part, ast.Subscript) and isinstance(part.ctx, ast.Store) and isinstance(part.value, ast.Name):
                if part.value.id in names:
                    self.tell(part, "L23: a loop changes what it goes over")


class Changes:
    """Looks at what a function changes: only what it made itself, so that every operator can call it.

    The methods of a few classes change their own objects; no operator, property or the like comes there.
    """

    def __init__(self, reader, function):
        self.reader = reader
        self.function = function
        self.values = {}
        for node in ast.walk(function):
            if isinstance(node, ast.Assign):
                for target in node.targets:
                    if isinstance(target, ast.Name):
                        self.values.setdefault(target.id, []).append(node.value)
                    for part in ast.walk(target):
                        if isinstance(part, ast.Name) and part is not target and isinstance(part.ctx, ast.Store):
                            self.values.setdefault(part.id, []).append(None)

    def created(self, name):
        values = self.values.get(name, [None])
        return all(value is not None and self.creates(value) for value in values)

    def creates(self, value):
        if isinstance(value, (ast.List, ast.Dict, ast.ListComp, ast.DictComp)) or called(value, "list", "dict", "sorted"):
            return True
        if isinstance(value, ast.BinOp):
            return self.creates(value.left) or self.creates(value.right)
        return isinstance(value, ast.Subscript) and isinstance(value.slice, ast.Slice)

    def made(self, name):
        return [called(value, "Pattern", "cls") for value in self.values.get(name, [])] == [True]

    def read(self):
        parent = self.reader.parents[self.function]
        own = isinstance(parent, ast.ClassDef) and self.changes_its_own(parent.name)
        for node in ast.walk(self.function):
            if isinstance(node, ast.Call) and isinstance(node.func, ast.Attribute) and node.func.attr in CHANGING:
                self.change(node, node.func.value, own)
            if isinstance(node, ast.Subscript) and not isinstance(node.ctx, ast.Load):
                self.change(node, node.value, own)
            if isinstance(node, ast.Attribute) and not isinstance(node.ctx, ast.Load):
                name = node.value.id if isinstance(node.value, ast.Name) else ""
                if not (own and name == "self") and not self.made(name):
                    self.reader.tell(node, "L5: an attribute is changed")
            if isinstance(node, ast.AugAssign):
                number = isinstance(node.value, ast.Constant) and isinstance(node.value.value, int)
                if not isinstance(node.op, ast.Add) or not number or not isinstance(node.target, ast.Name):
                    self.reader.tell(node, "L5: +=")

    def changes_its_own(self, name):
        if self.function.name.startswith("__"):
            return self.function.name in CHANGING_SPECIAL
        return name in CHANGEABLE and not self.function.decorator_list

    def change(self, node, what, own):
        if own and isinstance(what, ast.Attribute) and isinstance(what.value, ast.Name) and what.value.id == "self":
            return
        # The list of a key that the function gave a new list itself, as in parts[hole].append(..).
        if isinstance(what, ast.Subscript) and isinstance(what.value, ast.Name):
            what = what.value
        if not isinstance(what, ast.Name) or not self.created(what.id):
            self.reader.tell(node, "L5: something is changed that the function did not make")


def own_methods(trees):
    return {part.name for tree in trees for node in tree.body if isinstance(node, ast.ClassDef)
            for part in node.body if isinstance(part, ast.FunctionDef)}


def own_generators(trees):
    return {node.name for tree in trees for node in ast.walk(tree) if isinstance(node, ast.FunctionDef)
            if any(isinstance(part, (ast.Yield, ast.YieldFrom)) for part in ast.walk(node))}


def problems_of_tree(tree, methods, generators=()):
    """Return the problems of a file by its tree."""
    return Reader(tree, methods, generators).read()


def imported(tree):
    """Yield the modules and names that a file imports."""
    for node in tree.body:
        if isinstance(node, ast.ImportFrom):
            for alias in node.names:
                yield node.module, alias.name


def defined(tree):
    """Return the names that a file defines itself."""
    names = {node.name for node in tree.body if isinstance(node, (ast.FunctionDef, ast.ClassDef))}
    return names | {node.targets[0].id for node in tree.body if isinstance(node, ast.Assign)}
