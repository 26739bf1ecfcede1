"""[0.12], [0.13], stage 6: actions and programs."""

import copy
import unittest

from tests.reference import STRANGE, nested, tall, wide
from termpaths.errors import InvalidNumber, InvalidOperation, InvalidProgram, UnknownName
from termpaths.patterns.patterns import Pattern
from termpaths.programs import programs as module
from termpaths.programs.programs import (
    MAX_EDGES, MAX_POINTS, edges_from, edges_to, is_action, is_program, make_program, program_from, reached_points,
    renamed_program, renamed_program_by, renumbered, with_edge, without_edge,
)

TEN = ("a", "b", "c", "d", "e", "f", "g", "h", "i", "j")
LOOP = (("x", "y"), 2, ((0, (("x", ("a",)), ("y", ("f", ("a",)))), 1), (1, (("x", ("f", "x")), ("y", ("f", "y"))), 1)))
WRONG_PROGRAMS = (
    (("x",), 1), (("x",), 1, (), ()), [("x",), 1, ()], (["x"], 1, ()), (("y", "x"), 1, ()), (("x", "x"), 1, ()),
    ((), 1, ()), (TEN + ("k",), 1, ()), (("abcdefghi",), 1, ()), (("X",), 1, ()), ("x", 1, ()), (("x",), 0, ()),
    (("x",), 61, ()), (("x",), True, ()), (("x",), None, ()), (("x",), -1, ()), (("x",), 10 ** 39, ()), (("x",), 1, []),
    (("x",), 1, None), (("x",), 1, {}), (("x",), 1, ((0, (), 1),)), (("x",), 1, ((1, (), 0),)),
    (("x",), 1, ((0, (), -1),)), (("x",), 2, ((0, (), True),)), (("x",), 1, ((False, (), 0),)),
    (("x",), 1, ([0, (), 0],)), (("x",), 1, ((0, (), 0, 0),)), (("x",), 1, ((0, ()),)), (("x",), 1, ((0, [], 0),)),
    (("x",), 1, ((0, None, 0),)), (("x",), 1, ((0, (("y", "x"),), 0),)), (("x",), 1, ((0, (("x", "y"),), 0),)),
    (("x",), 1, ((0, (("x", 501),), 0),)), (("x",), 1, ((0, (("x", "x"), ("x", "x")), 0),)),
    (("x",), 1, ((0, (), 0),) * 121), (("x",), 1, (None,)), (("x",), 1, (0, (), 0)), (("x",), 1, ((0, (("x", 0),), 0),)),
)
WRONG_EDGES = (
    None, (), 0, "x", (0, ()), (0, (), 0, 0), [0, (), 0], (0, (), 60), (60, (), 0), (0, (), -1), (True, (), 0),
    (0, (("z", "x"),), 0), (0, (("x", "z"),), 0), (0, (("x", "x"), ("x", "y")), 0), (0, (("y", "x"), ("x", "y")), 0),
    (0, [("x", "y")], 0), (0, (("x", 0),), 0), (0, (("x", wide(61)),), 0), (0, None, 0), (0, (("x", tall(8)),), 0),
    (0, (), 10 ** 39), (0, (), "1"), (0, (), None), (None, (), 0), (0, (["x", "y"],), 0),
)


class ActionTest(unittest.TestCase):
    def test_ordinary(self):
        for value in ((), (("x", "y"),), (("x", 500), ("y", ("f", "x", 1, ("a",)))), (("y", ("c",)),), (("x", "x"),)):
            self.assertIs(is_action(("x", "y"), value), True)

    def test_limits(self):
        self.assertIs(is_action(TEN, tuple((name, "a") for name in TEN)), True)
        self.assertIs(is_action(TEN, tuple((name, "a") for name in TEN) + (("k", "a"),)), False)
        for term in (wide(60), tall(7), wide(60, 500), 1, 500, ("abcdefgh", "x")):
            self.assertIs(is_action(("x",), (("x", term),)), True)
        for term in (wide(61), tall(8), wide(61, 500), 0, 501, ("abcdefghi", "x"), True, "y", ("f", "y"), nested(20)):
            self.assertIs(is_action(("x",), (("x", term),)), False)

    def test_none(self):
        for value in STRANGE + (
            (("z", "x"),), (("y", "x"), ("x", "y")), (("x", "y"), ("x", "y")), [("x", "y")], (["x", "y"],), (("x",),),
            (("x", "y", "x"),), {"x": "y"}, ("x", "y"), (("x", "y"), None), ((1, "x"),), ((("x",), "x"),),
            (("x", Pattern(x=1)),), ((["x"], "x"),), (({}, "x"),),
        ):
            if value in ((), (("x", "y"),)):
                continue
            self.assertIs(is_action(("x", "y"), value), False, value)

    def test_errors(self):
        for names in STRANGE + (["x"], ("y", "x"), ("x", "x"), TEN + ("k",), ("X",), ("x", 1), "x", ("abcdefghi",), (["x"],)):
            with self.assertRaises(InvalidProgram):
                is_action(names, ())


class ProgramTest(unittest.TestCase):
    def test_constants(self):
        self.assertEqual((MAX_POINTS, MAX_EDGES), (60, 120))

    def test_ordinary(self):
        for value in (LOOP, (("x",), 1, ()), (TEN, 60, ((59, (), 59),) * 120), (("abcdefgh",), 3, ((2, (("abcdefgh", 1),), 0),))):
            self.assertIs(is_program(value), True)

    def test_none(self):
        for value in STRANGE + WRONG_PROGRAMS + (LOOP + (1,), LOOP[:2], list(LOOP), {"names": ("x",)}):
            self.assertIs(is_program(value), False, value)


class MakeTest(unittest.TestCase):
    def test_ordinary(self):
        self.assertEqual(make_program(("x", "y"), *LOOP[2]), LOOP)
        self.assertEqual(program_from(("y", "x", "y"), LOOP[2]), LOOP)
        self.assertEqual(make_program(("y", "x") * 20, *LOOP[2], size=None), LOOP)
        self.assertEqual(program_from(("x", "y"), LOOP[2], size=2), LOOP)

    def test_size(self):
        self.assertEqual(make_program(("x",)), (("x",), 1, ()))
        self.assertEqual(program_from(("x",), ()), (("x",), 1, ()))
        self.assertEqual(make_program(("x",), (0, (), 0))[1], 1)
        self.assertEqual(make_program(("x",), (5, (), 0))[1], 6)
        self.assertEqual(make_program(("x",), (0, (), 59), (1, (), 2))[1], 60)
        self.assertEqual(make_program(("x",), size=60), (("x",), 60, ()))
        self.assertEqual(make_program(("x",), (0, (), 1), size=7)[1], 7)

    def test_edges_keep_their_order(self):
        edges = ((1, (), 0), (0, (), 1), (0, (), 1), (0, (("x", 1),), 0))
        self.assertEqual(make_program(("x",), *edges), (("x",), 2, edges))

    def test_limits(self):
        self.assertEqual(len(program_from(("x",), ((0, (), 0),) * 120)[2]), 120)
        self.assertEqual(make_program(TEN)[0], TEN)
        for call in (
            lambda: program_from(("x",), ((0, (), 0),) * 121), lambda: make_program(TEN + ("k",)), lambda: make_program(()),
            lambda: make_program(("x",), (0, (), 60)), lambda: make_program(("x",), size=61),
            lambda: make_program(("x",), size=0), lambda: make_program(("x",), (0, (), 1), size=1),
            lambda: make_program(("abcdefghi",)), lambda: make_program(("x",), size=True),
            lambda: make_program(("x",), size="1"), lambda: make_program(("x",), size=-1),
        ):
            with self.assertRaises(InvalidProgram):
                call()

    def test_errors(self):
        for names in STRANGE + (["x"], "x", ("X",), ("x", 1), ("x", None), {"x": 1}, (["x"],), (("x",),)):
            if names == ("f", "x", "x", "x", "x"):
                continue
            with self.assertRaises(InvalidProgram):
                make_program(names)
            with self.assertRaises(InvalidProgram):
                program_from(names, ())
        for edges in (None, [], [(0, (), 0)], {}, "x", 3, True, Pattern(x=1)):
            with self.assertRaises(InvalidProgram):
                program_from(("x",), edges)
        for edge in WRONG_EDGES + STRANGE:
            with self.assertRaises(InvalidProgram):
                make_program(("x", "y"), (0, (), 1), edge)
            with self.assertRaises(InvalidProgram):
                program_from(("x", "y"), (edge,), size=5)
        for size in STRANGE:
            if size is not None:
                with self.assertRaises(InvalidProgram):
                    make_program(("x",), size=size)


class PointsTest(unittest.TestCase):
    PROGRAM = make_program(("x",), (0, (), 2), (2, (), 0), (2, (), 4), (1, (), 3), (3, (), 4), (4, (), 4), (0, (), 2), size=7)

    def test_reached(self):
        self.assertEqual(reached_points(self.PROGRAM), (0, 2, 4))
        self.assertEqual(reached_points(make_program(("x",), size=3)), (0,))
        long = tuple((k, (), k + 1) for k in reversed(range(59)))
        self.assertEqual(reached_points(program_from(("x",), long)), tuple(range(60)))
        self.assertEqual(reached_points(program_from(("x",), long[1:], size=60)), tuple(range(59)))

    def test_edges(self):
        self.assertEqual([edges_from(self.PROGRAM, k) for k in range(7)], [(0, 6), (3,), (1, 2), (4,), (5,), (), ()])
        self.assertEqual([edges_to(self.PROGRAM, k) for k in range(7)], [(1,), (), (0, 6), (3,), (2, 4, 5), (), ()])

    def test_errors(self):
        for value in STRANGE + WRONG_PROGRAMS:
            for call in (lambda: reached_points(value), lambda: edges_from(value, None), lambda: edges_to(value, None)):
                with self.assertRaises(InvalidProgram):
                    call()
        for value in STRANGE + (7, "0", (0,)):
            if value == 0 and value is not False:
                continue
            for call in (edges_from, edges_to):
                with self.assertRaises(InvalidNumber) as caught:
                    call(self.PROGRAM, value)
                self.assertIs(caught.exception.value, value)


class RenamedTest(unittest.TestCase):
    PROGRAM = make_program(("x", "y", "z"), (0, (("x", ("f", "y", ("x",))), ("y", ("g", "z", 7))), 1), (1, (("z", "x"),), 0))

    def test_circle(self):
        expected = (("x", "y", "z"), 2, (
            (0, (("y", ("f", "z", ("x",))), ("z", ("g", "x", 7))), 1), (1, (("x", "y"),), 0)))
        for found in (renamed_program(self.PROGRAM, x="y", y="z", z="x"),
                      renamed_program_by(self.PROGRAM, {"z": "x", "x": "y", "y": "z"})):
            self.assertEqual(found, expected)
            self.assertIs(is_program(found), True)

    def test_order_of_new_names(self):
        found = renamed_program(self.PROGRAM, x="zz", z="a")
        self.assertEqual(found, (("a", "y", "zz"), 2, (
            (0, (("y", ("g", "a", 7)), ("zz", ("f", "y", ("x",)))), 1), (1, (("a", "zz"),), 0))))

    def test_ten_names_turned_round(self):
        program = make_program(TEN, (0, tuple((name, ("f", name)) for name in TEN), 0))
        turned = {name: TEN[9 - k] for k, name in enumerate(TEN)}
        self.assertEqual(renamed_program_by(program, turned), program)

    def test_nothing_new(self):
        self.assertEqual(renamed_program(self.PROGRAM), self.PROGRAM)
        self.assertEqual(renamed_program_by(self.PROGRAM, {}), self.PROGRAM)
        self.assertEqual(renamed_program(self.PROGRAM, x="x"), self.PROGRAM)
        self.assertEqual(renamed_program_by(make_program(("program",)), {"program": "names"})[0], ("names",))

    def test_greatest_terms(self):
        program = make_program(("x",), (0, (("x", wide(60)),), 1), (1, (("x", tall(7)),), 1))
        found = renamed_program(program, x="abcdefgh")
        self.assertEqual(found[2], ((0, (("abcdefgh", wide(60, "abcdefgh")),), 1), (1, (("abcdefgh", tall(7, "abcdefgh")),), 1)))

    def test_errors(self):
        for value in STRANGE + WRONG_PROGRAMS:
            for call in (lambda: renamed_program(value, v="X"), lambda: renamed_program_by(value, None)):
                with self.assertRaises(InvalidProgram):
                    call()
        for value in (None, (), [], "x", 3, True, (("x", "y"),), {1: "x"}, {None: "x"}, {"v": "w", 1: "x"}, Pattern(x=1)):
            with self.assertRaises(InvalidOperation):
                renamed_program_by(self.PROGRAM, value)
        with self.assertRaises(UnknownName) as caught:
            renamed_program(self.PROGRAM, w="x", v="x", x=None)
        self.assertEqual(caught.exception.name, "v")
        for value in STRANGE + ("abcdefghi",):
            with self.assertRaises(InvalidOperation):
                renamed_program(self.PROGRAM, x=value)
        for names in ({"x": "y"}, {"x": "a", "y": "a"}):
            with self.assertRaises(InvalidOperation):
                renamed_program_by(self.PROGRAM, names)

    def test_arguments_stay(self):
        names = {"z": "x", "x": "z"}
        before = copy.deepcopy(self.PROGRAM)
        renamed_program_by(self.PROGRAM, names)
        self.assertEqual((list(names.items()), self.PROGRAM), ([("z", "x"), ("x", "z")], before))


class RenumberedTest(unittest.TestCase):
    PROGRAM = make_program(("x",), (0, (), 1), (1, (("x", 1),), 2), (2, (), 2), size=4)

    def test_ordinary(self):
        self.assertEqual(renumbered(self.PROGRAM, (0, 3, 1, 2)),
                         (("x",), 4, ((0, (), 3), (3, (("x", 1),), 1), (1, (), 1))))
        self.assertEqual(renumbered(self.PROGRAM, (0, 1, 2, 3)), self.PROGRAM)
        self.assertEqual(renumbered(make_program(("x",)), (0,)), make_program(("x",)))

    def test_errors(self):
        for value in STRANGE + WRONG_PROGRAMS:
            with self.assertRaises(InvalidProgram):
                renumbered(value, None)
        for value in STRANGE + (
            [0, 1, 2, 3], (1, 0, 2, 3), (0, 1, 2), (0, 1, 2, 3, 4), (0, 1, 2, 2), (0, 1, 2, 4), (0, True, 2, 3),
            (False, 1, 2, 3), (0, 1, 2, -1), (0, 1, 2, None), (0, 1, 2, "3"), (0, 1, 2, (3,)), {0: 0}, (0, 0, 1, 2),
            (0, 1, 2, 3, 3), (0, 1, 2, 3, 0), (0, 1, 2, ["3"]),
        ):
            with self.assertRaises(InvalidOperation):
                renumbered(self.PROGRAM, value)
        with self.assertRaises(InvalidOperation):
            renumbered(make_program(("x",)), (False,))


class EdgesTest(unittest.TestCase):
    def test_with_edge(self):
        edge = (1, (("x", ("f", "y")),), 0)
        self.assertEqual(with_edge(LOOP, edge), (LOOP[0], 2, LOOP[2] + (edge,)))
        self.assertEqual(with_edge(make_program(("x",), size=9), (8, (), 0))[1], 9)
        full = program_from(("x",), ((0, (), 0),) * 119)
        self.assertEqual(len(with_edge(full, (0, (), 0))[2]), 120)
        with self.assertRaises(InvalidProgram):
            with_edge(with_edge(full, (0, (), 0)), (0, (), 0))

    def test_without_edge(self):
        self.assertEqual(without_edge(LOOP, 0), (LOOP[0], 2, LOOP[2][1:]))
        self.assertEqual(without_edge(LOOP, 1), (LOOP[0], 2, LOOP[2][:1]))
        same = make_program(("x",), (0, (), 1), (0, (), 1))
        self.assertEqual(without_edge(same, 1)[2], ((0, (), 1),))

    def test_errors(self):
        for value in STRANGE + WRONG_PROGRAMS:
            for call in (lambda: with_edge(value, (0, (), 0)), lambda: without_edge(value, None)):
                with self.assertRaises(InvalidProgram):
                    call()
        for edge in WRONG_EDGES + STRANGE + ((0, (), 2), (2, (), 0)):
            with self.assertRaises(InvalidProgram):
                with_edge(LOOP, edge)
        for value in STRANGE + (2, -1, "0", (0,)):
            if value == 0 and value is not False:
                continue
            with self.assertRaises(InvalidNumber) as caught:
                without_edge(LOOP, value)
            self.assertIs(caught.exception.value, value)
        with self.assertRaises(InvalidNumber):
            without_edge(make_program(("x",)), 0)


class FileTest(unittest.TestCase):
    def test_defined_there(self):
        for name in ("is_action", "is_program", "make_program", "program_from", "reached_points", "edges_from", "edges_to",
                     "renamed_program", "renamed_program_by", "renumbered", "with_edge", "without_edge"):
            self.assertEqual(getattr(module, name).__module__, "termpaths.programs.programs")


if __name__ == "__main__":
    unittest.main()
