"""[0.16], [0.17], [8.1], [8.2], stage 8: tables and rounds."""

import copy
import unittest

from tests.hand import (
    FORK, LOOP, NAMES, TURN, form, forms, pattern, random_program, rounds_by_hand,
)
from tests.reference import STRANGE, powers, random_values, rng, shared_form
from tests.test_programs import WRONG_PROGRAMS
from termpaths.errors import InvalidPattern, InvalidProgram, InvalidTable, TooLarge
from termpaths.patterns.patterns import Pattern
from termpaths.programs.programs import make_program, program_from, reached_points
from termpaths.tables import tables as module
from termpaths.tables.tables import is_closed, is_table, joined_tables, rounds, table

STEP = (("x", ("s", "x")),)
# The state at the point 1 after the first edge is of x and y; the others go on from there.
WEIGHTS = make_program(("x", "y"), (0, (), 1), (0, (("x", "y"), ("y", "x")), 1))


def hand_forms(values_of_points):
    return {point: shared_form(values) for point, values in values_of_points.items()}


class TableTest(unittest.TestCase):
    def test_written(self):
        self.assertEqual(table(LOOP), {0: Pattern(x=1, y=2), 1: Pattern(x=1, y=("f", 1))})
        self.assertEqual(table(FORK), {0: Pattern.free(*NAMES), 1: Pattern(x=("f", 1), y=1, z=2)})
        self.assertEqual(table(TURN), {0: Pattern.free(*NAMES), 1: Pattern.free(*NAMES)})
        self.assertEqual(table(TURN, entry=Pattern(x=1, y=1, z=1)), {0: Pattern(x=1, y=1, z=1), 1: Pattern(x=1, y=1, z=1)})
        self.assertEqual(table(TURN, entry=Pattern(x=1, y=1, z=2))[0], Pattern.free(*NAMES))
        self.assertEqual(table(make_program(("x",), size=3)), {0: Pattern(x=1)})

    def test_points_that_no_run_reaches(self):
        program = make_program(("x",), (1, (), 0), (1, (), 2), (3, (("x", 1),), 3), (0, (), 4))
        self.assertEqual(table(program, entry=Pattern(x=("a",))), {0: Pattern(x=("a",)), 4: Pattern(x=("a",))})
        self.assertEqual(list(rounds(program)), [{0: Pattern(x=1)}, {0: Pattern(x=1), 4: Pattern(x=1)}])

    def test_loop_back_to_the_entry(self):
        program = make_program(("x", "y"), (0, (("x", ("f", "x")), ("y", ("f", "y"))), 0))
        self.assertEqual(table(program, entry=Pattern(x=("a",), y=("f", ("a",)))), {0: Pattern(x=1, y=("f", 1))})
        self.assertEqual(table(program, entry=Pattern(x=("a",), y=("b",))), {0: Pattern(x=1, y=2)})

    def test_each_round_is_the_common_pattern_of_runs(self):
        several = 0
        for seed in range(120):
            program = random_program(seed, points=3, edges=4 + seed % 2)
            one = rng(seed)
            values = random_values(one, NAMES, 2, 1) if seed % 3 else None
            entry = None if values is None else pattern(values)
            expected = [hand_forms(states) for states in rounds_by_hand(program, 4, values)]
            found = [forms(states) for states in rounds(program, entry=entry)]
            self.assertEqual(found[:5], expected[:len(found)])
            for later in expected[len(found):]:
                self.assertEqual(later, found[-1])
            several += len(found) > 3
            last = table(program, entry=entry)
            self.assertEqual(forms(last), found[-1])
            self.assertEqual(list(last), list(reached_points(program)))
            self.assertIs(is_closed(program, last, entry=entry), True)
        self.assertGreater(several, 30)

    def test_keys_ascend(self):
        program = make_program(("x",), (0, (), 2), (2, (), 1), (1, (), 3))
        self.assertEqual([list(one) for one in rounds(program)], [[0], [0, 2], [0, 1, 2], [0, 1, 2, 3]])

    def test_rounds_one_by_one(self):
        generator = rounds(LOOP)
        self.assertEqual(next(generator), {0: Pattern(x=1, y=2)})
        self.assertEqual(next(generator), {0: Pattern(x=1, y=2), 1: Pattern(x=("a",), y=("f", ("a",)))})
        self.assertEqual(next(generator), {0: Pattern(x=1, y=2), 1: Pattern(x=1, y=("f", 1))})
        self.assertEqual(list(generator), [])
        self.assertEqual(len(list(rounds(make_program(("x",), (0, STEP, 0))))), 1)
        self.assertEqual(len(list(rounds(make_program(("x",), size=60)))), 1)

    def test_many_rounds(self):
        # The common part of x shrinks by one operator in each round.
        program = make_program(("x",), (0, (("x", ("a",)),), 1), (1, (("x", ("s", "x")),), 1))
        self.assertEqual(table(program)[1], Pattern(x=1))
        chain = program_from(("x",), tuple((k, STEP, k + 1) for k in range(59)))
        self.assertEqual(len(list(rounds(chain))), 60)
        self.assertEqual(form(table(chain)[59]), form(powers(x=59)))
        names = tuple("abcdefghij")
        shift = tuple((names[k], names[(k + 1) % 10]) for k in range(10))
        different = {name: (name,) for name in names}
        equal = {name: ("a",) if name != "j" else ("b",) for name in names}
        program = program_from(names, ((0, shift, 0),))
        self.assertEqual(table(program, entry=Pattern(**different)), {0: Pattern.free(*names)})
        self.assertEqual(len(list(rounds(program, entry=Pattern(**equal)))), 10)

    def test_changed_by_the_caller(self):
        expected = table(LOOP)
        found = table(LOOP)
        found.clear()
        self.assertEqual(table(LOOP), expected)
        kept = []
        for one in rounds(LOOP):
            kept.append(copy.copy(one))
            one.clear()
            one[1] = Pattern(x=1, y=1)
        self.assertEqual(kept, list(rounds(LOOP)))

    def test_renumbered_and_joined_in_order(self):
        edges = LOOP[2]
        self.assertEqual(table(make_program(("x", "y"), edges[1], edges[0])), table(LOOP))

    def test_entry_left_out(self):
        self.assertEqual(table(LOOP), table(LOOP, entry=None))
        self.assertEqual(list(rounds(FORK)), list(rounds(FORK, entry=Pattern.free(*NAMES))))

    def test_errors(self):
        for value in STRANGE + WRONG_PROGRAMS:
            for call in (lambda: table(value, entry=0), lambda: next(rounds(value, entry=0)), lambda: is_table(value, None),
                         lambda: is_closed(value, None, entry=0), lambda: joined_tables(value, 0, 0)):
                with self.assertRaises(InvalidProgram):
                    call()
        for value in STRANGE + (Pattern(x=1, z=2), Pattern(x=1, y=2, z=3), {"x": 1, "y": 2}):
            if value is None:
                continue
            generator = rounds(LOOP, entry=value)
            for call in (lambda: table(LOOP, entry=value), lambda: next(generator), lambda: is_closed(LOOP, None, entry=value)):
                with self.assertRaises(InvalidPattern):
                    call()


class WeightTest(unittest.TestCase):
    def test_images(self):
        program = make_program(("x", "y"), (0, STEP, 1))
        self.assertEqual(table(program, entry=powers(x=498, y=0))[1].weight, 500)
        for call in (table, lambda *args, **more: list(rounds(*args, **more))):
            with self.assertRaises(TooLarge) as caught:
                call(program, entry=powers(x=499, y=0))
            self.assertEqual(caught.exception.limit, 500)

    def test_common_patterns(self):
        # Both names lose the part that only one of them has, and nothing is shared by them any more.
        self.assertEqual(table(WEIGHTS, entry=powers(x=250, y=249))[1].weight, 500)
        program = make_program(NAMES, *WEIGHTS[2])
        constant = Pattern(z=("a",))
        self.assertEqual(table(program, entry=powers(x=250, y=248).beside(constant))[1].weight, 499)
        for found, entry in ((WEIGHTS, powers(x=251, y=250)), (program, powers(x=250, y=249).beside(constant))):
            with self.assertRaises(TooLarge) as caught:
                table(found, entry=entry)
            self.assertEqual(caught.exception.limit, 500)

    def test_on_the_way_to_a_small_one(self):
        # Joined in the order of the edges, the first two make a pattern that is too great; with the third it is small.
        small = (0, (("x", ("a",)),), 1)
        first, second = WEIGHTS[2]
        entry = powers(x=300, y=250)
        with self.assertRaises(TooLarge):
            table(make_program(("x", "y"), first, second, small), entry=entry)
        for edges in ((first, small, second), (small, first, second), (small, second, first)):
            found = table(make_program(("x", "y"), *edges), entry=entry)[1]
            self.assertEqual(found, Pattern(x=1).beside(powers(y=250)))

    def test_on_the_way_to_the_last_round(self):
        # The image along the edge to the point 2 counts, although the pattern there is a hole already.
        program = make_program(("x", "y"), (0, (), 1), (1, STEP, 2), (0, (("x", ("a",)),), 2))
        for entry, fine in ((powers(x=498, y=0), True), (powers(x=499, y=0), False)):
            generator = rounds(program, entry=entry)
            self.assertEqual(list(next(generator)), [0])
            self.assertEqual(list(next(generator)), [0, 1, 2])
            if fine:
                self.assertEqual(next(generator)[2], Pattern(x=1, y=2))
                self.assertEqual(list(generator), [])
            else:
                with self.assertRaises(TooLarge):
                    next(generator)
                with self.assertRaises(TooLarge):
                    table(program, entry=entry)

    def test_behind_the_last_round(self):
        # Round 1 is the last one: the next one is equal, but an image on the way to it is too great.
        program = make_program(("x", "y"), (0, (("x", ("a",)),), 1), (0, (), 1), (1, (("x", ("b",)), ("y", ("s", ("s", "y")))), 1))
        entry = powers(x=0, y=498)
        generator = rounds(program, entry=entry)
        self.assertEqual([next(generator)[0], sorted(next(generator))], [entry, [0, 1]])
        with self.assertRaises(TooLarge):
            next(generator)
        generator = rounds(make_program(("x",), (0, STEP, 0)), entry=powers(x=499))
        self.assertEqual(next(generator), {0: powers(x=499)})
        with self.assertRaises(TooLarge) as caught:
            next(generator)
        self.assertEqual(caught.exception.limit, 500)

    def test_great_values(self):
        double = (("x", ("d", "x", "x")),)
        edges = tuple((k, double, k + 1) for k in range(59))
        program = program_from(("x",), edges)
        self.assertEqual(table(program)[59].size("x"), 2 ** 60 - 1)


class JudgeTest(unittest.TestCase):
    P = Pattern(x=1, y=2)

    def test_tables(self):
        for value in ({}, {0: self.P}, {1: self.P}, {1: self.P, 0: Pattern(x=1, y=1)}, table(LOOP)):
            self.assertIs(is_table(LOOP, value), True)
        for value in STRANGE + (
            {2: self.P}, {-1: self.P}, {True: self.P}, {False: self.P}, {"0": self.P}, {0: Pattern(x=1)}, {None: self.P},
            {0: Pattern(x=1, y=2, z=3)}, {0: None}, {0: {"x": 1, "y": 2}}, {0: (self.P,)}, [self.P], (self.P, self.P),
            ((0, self.P),), {0: self.P, 2: self.P}, {(0,): self.P}, {10 ** 39: self.P}, self.P,
        ):
            if value == {} and isinstance(value, dict):
                continue
            self.assertIs(is_table(LOOP, value), False)
            self.assertIs(is_closed(LOOP, value), False)

    def test_nearly_closed(self):
        f = Pattern(x=1, y=("f", 1))
        self.assertIs(is_closed(LOOP, {0: self.P, 1: f}), True)
        self.assertIs(is_closed(LOOP, {1: f, 0: self.P}), True)
        self.assertIs(is_closed(LOOP, {0: self.P, 1: self.P}), True)
        for value in (
            {}, {0: self.P}, {1: f}, {1: self.P}, {0: self.P, 1: Pattern(x=("f", 1), y=("f", ("f", 1)))},
            {0: self.P, 1: Pattern(x=("a",), y=("f", ("a",)))}, {0: f, 1: f}, {0: Pattern(x=1, y=1), 1: f},
            {0: self.P, 1: Pattern(x=1, y=1)}, {0: self.P, 1: Pattern(x=1, y=("g", 1))}, {0: self.P, 1: Pattern(x=1, y=("f", 2, 1))},
        ):
            self.assertIs(is_closed(LOOP, value), False)
        self.assertIs(is_closed(LOOP, {0: f, 1: f}, entry=f), True)
        self.assertIs(is_closed(LOOP, {0: f, 1: f}, entry=Pattern(x=("b",), y=("f", ("b",)))), True)
        self.assertIs(is_closed(LOOP, {0: Pattern(x=("b",), y=1), 1: f}, entry=f), False)

    def test_points_that_no_run_reaches(self):
        program = make_program(("x",), (1, (), 2), (0, (), 0))
        entry = Pattern(x=("a",))
        for value, right in (
            ({0: entry}, True), ({0: entry, 2: entry}, True), ({0: entry, 1: entry}, False),
            ({0: entry, 1: entry, 2: Pattern(x=1)}, True), ({0: entry, 1: Pattern(x=1), 2: entry}, False),
        ):
            self.assertIs(is_closed(program, value, entry=entry), right)

    def test_images_of_great_weight(self):
        program = make_program(("x", "y"), (0, STEP, 0))
        self.assertIs(is_closed(program, {0: powers(x=499, y=0)}, entry=powers(x=499, y=0)), False)
        self.assertIs(is_closed(program, {0: Pattern(x=1, y=2)}, entry=powers(x=499, y=0)), True)
        around = make_program(("x", "y"), (0, STEP, 1))
        self.assertIs(is_closed(around, {0: powers(x=499, y=0), 1: Pattern(x=("s", 1), y=2)}, entry=powers(x=499, y=0)), True)

    def test_least_of_all_closed_tables(self):
        closed = 0
        for seed in range(300):
            program = random_program(seed, names=("x", "y"), points=3, edges=4)
            one = rng(seed)
            entry = pattern(random_values(one, ("x", "y"), 2, 1))
            least = table(program, entry=entry)
            other = {point: pattern(random_values(one, ("x", "y"), 2, 1 + seed % 2)) for point in range(3)}
            for point in least:
                other[point] = other[point] | least[point] if one.randrange(3) else least[point]
            while not all(last in other and other[first].after(action) <= other[last]
                          for first, action, last in program[2] if first in other) and one.randrange(4):
                for first, action, last in program[2]:
                    if first in other:
                        other[last] = other[last] | other[first].after(action)
            right = all(other[first].after(action) <= other[last] for first, action, last in program[2])
            self.assertIs(is_closed(program, other, entry=entry), right and entry <= other[0])
            if is_closed(program, other, entry=entry):
                closed += 1
                for point in least:
                    self.assertLessEqual(least[point], other[point])
                both = joined_tables(program, least, other)
                self.assertIs(is_closed(program, both, entry=entry), True)
                self.assertEqual(both, {point: other[point] for point in sorted(other)})
        self.assertGreater(closed, 100)

    def test_joined(self):
        f, g = Pattern(x=1, y=("f", 1)), Pattern(x=1, y=("g", 1))
        self.assertEqual(joined_tables(LOOP, {1: f}, {1: g, 0: f}), {0: f, 1: Pattern(x=1, y=2)})
        self.assertEqual(list(joined_tables(LOOP, {1: f}, {0: g})), [0, 1])
        self.assertEqual(joined_tables(LOOP, {}, {}), {})
        self.assertEqual(joined_tables(LOOP, {}, {0: g}), {0: g})
        self.assertEqual(joined_tables(LOOP, {0: g}, {}), {0: g})
        first, second = {0: f}, {0: g, 1: g}
        joined_tables(LOOP, first, second)[0] = None
        self.assertEqual((first, second), ({0: f}, {0: g, 1: g}))

    def test_joined_closed_tables(self):
        for seed in range(60):
            program = random_program(seed, names=("x", "y"), points=4, edges=6)
            one = rng(seed)
            two = [table(program, entry=pattern(random_values(one, ("x", "y"), 2, 1))) for _ in range(2)]
            both = joined_tables(program, *two)
            for entry in (two[0][0], two[1][0]):
                self.assertIs(is_closed(program, both, entry=entry), True)
            self.assertEqual(both, {point: two[0][point] | two[1][point] for point in two[0]})

    def test_joined_errors(self):
        program = make_program(("x", "y"))
        for value in STRANGE + ({1: self.P}, {0: Pattern(x=1)}, [self.P], {False: self.P}):
            if value == {} and isinstance(value, dict):
                continue
            for call in (lambda: joined_tables(program, value, {}), lambda: joined_tables(program, {0: powers(x=300, y=250)}, value)):
                with self.assertRaises(InvalidTable):
                    call()
        self.assertEqual(joined_tables(program, {0: powers(x=300, y=250)}, {0: powers(x=300, y=198)})[0].weight, 500)
        with self.assertRaises(TooLarge) as caught:
            joined_tables(program, {0: powers(x=300, y=250)}, {0: powers(x=300, y=199)})
        self.assertEqual(caught.exception.limit, 500)

    def test_defined_there(self):
        for name in ("table", "rounds", "is_table", "is_closed", "joined_tables"):
            self.assertEqual(getattr(module, name).__module__, "termpaths.tables.tables")


if __name__ == "__main__":
    unittest.main()
