"""The package keeps to its subset of Python."""

import ast
import os
import unittest

from tests.language import (
    defined, imported, own_generators, own_methods, package_files, problems_of_text, problems_of_tree,
)

ROOT = os.path.dirname(os.path.dirname(os.path.abspath(__file__)))
TOP = os.path.join(ROOT, "termpaths")


def sources():
    """Return a dict from module names to the texts of the files."""
    found = {}
    for path in package_files(TOP):
        with open(path, encoding="utf-8") as file:
            name = os.path.relpath(path, ROOT)[:-len(".py")].replace(os.sep, ".")
            found[name[:-len(".__init__")] if name.endswith(".__init__") else name] = file.read()
    return found


class PackageTest(unittest.TestCase):
    def setUp(self):
        self.texts = sources()
        self.trees = {name: ast.parse(text) for name, text in self.texts.items()}

    def test_files(self):
        for path in package_files(TOP):
            self.assertTrue(path.endswith(".py"), path)
            self.assertTrue(os.path.exists(os.path.join(os.path.dirname(path), "__init__.py")))

    def test_problems(self):
        methods = own_methods(self.trees.values())
        generators = own_generators(self.trees.values())
        for name, tree in self.trees.items():
            found = problems_of_text(self.texts[name]) + problems_of_tree(tree, methods, generators)
            with self.subTest(name):
                self.assertEqual(found, [])

    def test_generators(self):
        names = [node.name for tree in self.trees.values() for node in ast.walk(tree) if isinstance(node, ast.FunctionDef)]
        for name in own_generators(self.trees.values()):
            self.assertEqual(names.count(name), 1, name)

    def test_imports(self):
        for name, tree in self.trees.items():
            for module, what in imported(tree):
                self.assertIn(what, defined(self.trees[module]), f"{name} imports {what} from {module}")
                self.assertTrue(used(tree, what), f"{name} imports {what} and does not use it")

    def test_no_circles(self):
        needs = {name: {module for module, _ in imported(tree)} for name, tree in self.trees.items()}
        left = set(needs)
        while left:
            free = {name for name in left if not needs[name] & left}
            self.assertTrue(free, f"these import from each other: {sorted(left)}")
            left -= free

    def test_folders_bind_nothing(self):
        folders = ["termpaths"] + [f"termpaths.{name}" for name in os.listdir(TOP) if os.path.isdir(os.path.join(TOP, name))]
        for name in folders:
            if not name.endswith("__pycache__"):
                self.assertEqual([type(node) for node in self.trees[name].body], [ast.Expr])


def used(tree, name):
    return any(isinstance(node, ast.Name) and node.id == name for node in ast.walk(tree))


class ReaderTest(unittest.TestCase):
    """The reader finds what it is to find."""

    def test_problems_are_found(self):
        for text in (
            "import os", "from termpaths.errors import InvalidTerm as T", "for k in range(3):\n    pass", "X, Y = 1, 2",
            "def f(xs):\n    return sorted(xs)", "def f(xs):\n    return max(xs)", "def f(xs):\n    xs.append(1)",
            "def f(xs):\n    xs[0] = 1", "def f(x):\n    x.n = 1", "def f(xs):\n    return any(x for x in xs)",
            "def f(xs):\n    return reversed(xs)", "def f(xs):\n    return zip(xs, xs)", "def f(x, y):\n    return x is y",
            "def f(list):\n    return 1", "def f():\n    try:\n        pass\n    except KeyError:\n        pass",
            "def f(x):\n    return x.title()", "def f(x):\n    return open(x)", "def f():\n    return 1.5",
            "def f(xs):\n    s = set(xs)\n    return s", "def f(x):\n    raise x", "def f():\n    return lambda x: x",
            "def f(xs):\n    ys = list(xs)\n    for y in ys:\n        ys.append(y)", "def f():\n    return 'a % b'",
            "def f(xs):\n    ys = xs\n    ys.append(1)", "class A:\n    def __hash__(self):\n        return 1",
            "def f():\n" + "    pass\n" * 40, "def f(n):\n    n -= 1", "def f(_):\n    return _", "def f(x: int = 1.5):\n    return x",
            "class A:\n    def __getitem__(self, k):\n        return k", "def f(d):\n    return d.items()",
            "def f(d, xs):\n    return d[(1, *xs)]", "def f(d, xs):\n    return d[1, *xs]", "def f(xs):\n    d = {}\n    d[(*xs, 1)] = 2",
            "def f(d, xs):\n    return d[g([1, *xs])]", "def f(d, xs):\n    return d[xs[0]:(*xs, 1)]",
            "def f(x):\n    try:\n        g(x)\n    finally:\n        h(x)", "X = {1: [2]}", "X = [1]", "X = {1: f}\ndef f():\n    return 1",
            "from termpaths.errors import A\nX = {1: A}", "X = {1: {2: 3}}",
            "def f(x, y):\n    try:\n        g(x)\n    finally:\n        if x > 1:\n            y = 2",
            "class Store:\n    @property\n    def f(self):\n        self.n = 1", "class A:\n    def f(self):\n        self.n = 1",
            "class Store:\n    def __len__(self):\n        self.n = 1", "class Store:\n    def f(self, x):\n        x.n = 1",
            "class Store:\n    def __exit__(self, kind, value, trace):\n        self.rows.append(1)",
            "from termpaths.errors import A\ndef f():\n    try:\n        pass\n    except (A, KeyError):\n        pass",
        ):
            self.assertNotEqual(problems_of_tree(ast.parse(text), set()), [], text)

    def test_generators_that_are_kept(self):
        for text in ("def f():\n    xs = g(1)\n    return xs", "def f():\n    return g(1)", "def f(xs):\n    return list(g(xs[0]))",
                     "def f(xs):\n    return [*g(xs)]"):
            self.assertNotEqual(problems_of_tree(ast.parse(text), set(), {"g"}), [], text)
        text = "def f(xs):\n    for x in g(xs):\n        yield x\n    yield from g(xs)"
        self.assertEqual(problems_of_tree(ast.parse(text), set(), {"g", "f"}), [])

    def test_tries_and_tables(self):
        for text in (
            "from termpaths.errors import A\ndef f(x):\n    try:\n        x = g(x)\n    except A:\n        raise B(x)\n    return x",
            "def f(x, y):\n    try:\n        y = g(x)\n    finally:\n        if y is None:\n            y = x\n    return y",
            "def f(x):\n    return x\nX = {'a': f, 'b': (1, 'c')}\nY = ('d', 2)",
            "class Store:\n    def f(self, x):\n        self.n = x\n        self.rows.append(x)",
            "class Store:\n    def __exit__(self, kind, value, trace):\n        one = self.one\n        if kind is not None:\n"
            "            self.two = one.two\n        self.one = one.one",
        ):
            self.assertEqual(problems_of_tree(ast.parse(text), {"f"}), [], text)

    def test_nothing_is_found(self):
        text = "def f(xs):\n    ys = list(xs)\n    n = 0\n    for y in xs:\n        n += 1\n        ys.append(y)\n    return ys, n"
        self.assertEqual(problems_of_tree(ast.parse(text), set()), [])

    def test_rows(self):
        self.assertEqual(len(problems_of_text("x" * 121)), 1)
        self.assertEqual(len(problems_of_text("a\tb")), 1)
        self.assertEqual(len(problems_of_text("\n" * 400)), 1)
        self.assertEqual(problems_of_text("\n" * 399), [])


if __name__ == "__main__":
    unittest.main()
