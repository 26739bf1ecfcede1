"""[6.1]: programs of statements."""

import unittest

from tests.reference import STRANGE, rng, tall, wide
from termpaths.errors import InvalidProgram, TooLarge
from termpaths.programs import statements as module
from termpaths.programs.programs import is_program
from termpaths.programs.statements import statement_program

ONE = ("do", (("x", ("f", "x")),))
TWO = ("do", (("x", 1),))
NOTHING = ("do", ())
F = ONE[1]
R = TWO[1]


def made(statement, names=("x",)):
    """Return the size, the edges and the marks of a statement."""
    program, marks = statement_program(names, statement)
    assert program[0] == names
    assert is_program(program)
    return program[1], program[2], marks


def mark(name):
    return ("mark", name)


def deep_statement(word, depth, inner=ONE):
    """Return a statement that is nested so deep."""
    for _ in range(depth - 1):
        inner = ("choose", inner, ("seq",)) if word == "choose" else (word, inner)
    return inner


class Builder:
    """Makes points and edges one by one, as the document tells it."""

    def __init__(self):
        self.points, self.edges, self.marks = 1, [], {}

    def point(self):
        self.points += 1
        return self.points - 1

    def build(self, statement, begin):
        word = statement[0]
        if word == "do":
            end = self.point()
            self.edges.append((begin, statement[1], end))
            return end
        if word == "mark":
            self.marks[statement[1]] = begin
            return begin
        if word == "seq":
            for inner in statement[1:]:
                begin = self.build(inner, begin)
            return begin
        if word == "choose":
            ends = [self.build(inner, begin) for inner in statement[1:]]
            new = self.point()
            self.edges.extend((end, (), new) for end in ends)
            return new
        new = self.point()
        self.edges.append((begin, (), new))
        self.edges.append((self.build(statement[1], new), (), new))
        return new


def random_statement(one, depth, marks):
    word = one.choice(("do", "mark", "seq", "seq", "choose", "repeat")) if depth > 1 else one.choice(("do", "do", "mark", "seq"))
    if word == "do":
        return one.choice((ONE, TWO, NOTHING))
    if word == "mark":
        marks.append("m" + "abcdefghijklmnopqrstuvwxyz"[len(marks) % 26] * (1 + len(marks) // 26))
        return mark(marks[-1])
    if word == "repeat":
        return ("repeat", random_statement(one, depth - 1, marks))
    many = one.randrange(4) if word == "seq" else 2 + one.randrange(2)
    return (word,) + tuple(random_statement(one, depth - 1, marks) for _ in range(many if depth > 1 else 0))


class StatementTest(unittest.TestCase):
    def test_each_kind(self):
        self.assertEqual(made(ONE), (2, ((0, F, 1),), {}))
        self.assertEqual(made(mark("end")), (1, (), {"end": 0}))
        self.assertEqual(made(("seq",)), (1, (), {}))
        self.assertEqual(made(("seq", ONE, TWO)), (3, ((0, F, 1), (1, R, 2)), {}))
        self.assertEqual(made(("choose", ONE, TWO)), (4, ((0, F, 1), (0, R, 2), (1, (), 3), (2, (), 3)), {}))
        self.assertEqual(made(("repeat", ONE)), (3, ((0, (), 1), (1, F, 2), (2, (), 1)), {}))

    def test_within_one_another(self):
        self.assertEqual(made(("repeat", ("seq",))), (2, ((0, (), 1), (1, (), 1)), {}))
        self.assertEqual(made(("choose", ("seq",), mark("b"), ("seq",))), (2, ((0, (), 1),) * 3, {"b": 0}))
        self.assertEqual(made(("repeat", ("repeat", ONE))),
                         (4, ((0, (), 1), (1, (), 2), (2, F, 3), (3, (), 2), (2, (), 1)), {}))
        self.assertEqual(
            made(("seq", mark("z"), ("choose", ("seq", ONE, mark("y"), TWO), ("repeat", ("seq", TWO, mark("x")))), mark("a"))),
            (6, ((0, F, 1), (1, R, 2), (0, (), 3), (3, R, 4), (4, (), 3), (2, (), 5), (3, (), 5)),
             {"a": 5, "x": 4, "y": 1, "z": 0}))
        self.assertEqual(
            made(("seq", ("repeat", ("choose", ONE, ("seq",))), TWO, mark("end"))),
            (5, ((0, (), 1), (1, F, 2), (2, (), 3), (1, (), 3), (3, (), 1), (1, R, 4)), {"end": 4}))

    def test_marks_ascend(self):
        for names in (("b", "a", "c"), ("c", "b", "a")):
            _, _, marks = made(("seq",) + tuple(mark(name) for name in names))
            self.assertEqual(list(marks.items()), [("a", 0), ("b", 0), ("c", 0)])
        self.assertEqual(made(("seq", mark("x"), ONE, mark("f")))[2], {"f": 1, "x": 0})

    def test_random(self):
        sizes = set()
        for seed in range(300):
            one = rng(seed)
            marks = []
            statement = random_statement(one, 1 + seed % 5, marks)
            builder = Builder()
            builder.build(statement, 0)
            if builder.points > 60 or len(builder.edges) > 120:
                continue
            sizes.add(builder.points)
            self.assertEqual(made(statement), (builder.points, tuple(builder.edges), builder.marks))
            self.assertEqual(list(made(statement)[2]), sorted(marks))
        self.assertGreater(len(sizes), 10)

    def test_depth(self):
        for word in ("seq", "repeat", "choose"):
            for inner in (ONE, mark("end"), ("seq",)):
                self.assertIs(is_program(statement_program(("x",), deep_statement(word, 8, inner))[0]), True)
                with self.assertRaises(InvalidProgram):
                    statement_program(("x",), deep_statement(word, 9, inner))
        self.assertEqual(made(("seq", deep_statement("seq", 7), deep_statement("seq", 7)))[0], 3)
        with self.assertRaises(InvalidProgram):
            statement_program(("x",), ("seq", ONE, deep_statement("seq", 8)))
        with self.assertRaises(InvalidProgram):
            statement_program(("x",), ("choose", ONE, TWO, deep_statement("repeat", 20)))

    def test_points(self):
        self.assertEqual(made(("seq",) + (ONE,) * 59)[0], 60)
        self.assertEqual(made(("choose",) + (ONE,) * 58)[0], 60)
        self.assertEqual(made(("seq",) + (("repeat", NOTHING),) * 29 + (ONE,))[0], 60)
        for statement in (("seq",) + (ONE,) * 60, ("choose",) + (ONE,) * 59, ("seq",) + (("repeat", NOTHING),) * 30):
            with self.assertRaises(TooLarge) as caught:
                statement_program(("x",), statement)
            self.assertEqual(caught.exception.limit, 60)

    def test_edges(self):
        empty = ("seq",)
        self.assertEqual(made(("choose",) + (empty,) * 120)[:2], (2, ((0, (), 1),) * 120))
        for statement in (("choose",) + (empty,) * 121, ("seq", ("choose",) + (empty,) * 60, ("choose",) + (empty,) * 60, ONE)):
            with self.assertRaises(TooLarge) as caught:
                statement_program(("x",), statement)
            self.assertEqual(caught.exception.limit, 120)
        # Points come before edges.
        both = ("seq", ("choose",) + (empty,) * 200) + (ONE,) * 60
        with self.assertRaises(TooLarge) as caught:
            statement_program(("x",), both)
        self.assertEqual(caught.exception.limit, 60)
        with self.assertRaises(TooLarge) as caught:
            statement_program(("x",), ("choose",) + (("choose", empty, ONE),) * 61)
        self.assertEqual(caught.exception.limit, 60)

    def test_marks_that_occur_twice(self):
        for statement in (
            ("seq", mark("a"), mark("a")), ("seq", mark("a"), ONE, mark("a")), ("choose", mark("a"), ("repeat", mark("a"))),
            ("seq", mark("a"), mark("b"), mark("a")), ("seq", mark("a"), mark("a")) + (ONE,) * 60,
        ):
            with self.assertRaises(InvalidProgram):
                statement_program(("x",), statement)

    def test_wrong_names(self):
        for names in STRANGE + (["x"], ("y", "x"), ("x", "x"), tuple("abcdefghijk"), ("X",), ("x", 1), "x", ("abcdefghi",)):
            with self.assertRaises(InvalidProgram):
                statement_program(names, ("seq",))
        self.assertEqual(made(("seq",), tuple("abcdefghij"))[0], 1)

    def test_wrong_statements(self):
        for value in STRANGE + (
            ("do",), ("do", F, F), ("do", None), ("do", "x"), ("do", [("x", "x")]), ("do", (("y", "x"),)),
            ("do", (("x", "y"),)), ("do", (("x", "x"), ("x", "x"))), ("do", (("x", wide(61)),)), ("do", (("x", tall(8)),)),
            ("mark",), ("mark", "a", "b"), ("mark", "A"), ("mark", ""), ("mark", 1), ("mark", None), ("mark", ["a"]),
            ("mark", "abcdefghi"), ("seq", None), ("seq", [ONE]), ("seq", ONE, "do"), ("choose",), ("choose", ONE),
            ("choose", ONE, None), ("choose", ONE, ("choose", ONE)), ("repeat",), ("repeat", ONE, ONE), ("repeat", None),
            ["seq"], "seq", ("Seq",), ("loop", ONE), (("seq",),), ("repeat", ("mark", "a b")), ("seq", ONE, ("do", ((),))),
            {"seq": ()}, (True, ONE), ("do", (("x", True),)), ("do", (("x", 0),)), ("do", (("x", 501),)),
        ):
            with self.assertRaises(InvalidProgram):
                statement_program(("x",), value)
            with self.assertRaises(InvalidProgram):
                statement_program(("x",), ("seq", ONE, value))
        many = (ONE,) * 61 + (None,)
        with self.assertRaises(InvalidProgram):
            statement_program(("x",), ("seq",) + many)

    def test_defined_there(self):
        self.assertEqual(module.statement_program.__module__, "termpaths.programs.statements")


if __name__ == "__main__":
    unittest.main()
