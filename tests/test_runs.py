"""[0.7], [0.12] to [0.14], stage 7: runs and states."""

import itertools
import unittest

from tests.hand import (
    FORK, LOOP, TURN, all_runs, form, integers, pattern, random_program, values_after,
)
from tests.reference import STRANGE, powers, random_values, rng, shared_form, stepped
from tests.test_programs import WRONG_PROGRAMS
from termpaths.errors import InvalidNumber, InvalidPattern, InvalidProgram, InvalidRun, InvalidTerm, TooLarge
from termpaths.patterns.patterns import Pattern
from termpaths.programs import runs as module
from termpaths.programs.programs import make_program, program_from
from termpaths.programs.runs import end_of, image, is_run, runs, runs_to, state_after, values_read

RING = program_from(("x",), tuple((k, (), (k + 1) % 12) for k in range(12)))
STEP = (("x", ("s", "x")),)
WRONG_RUNS = (
    [0], [], "", None, 0, True, (True,), (False,), (0, True), (0, False), ((0,),), ("0",), (None,), (0, 0), (1,), (2,),
    (-1,), (0, -1), (0, 2), (10 ** 39,), {}, {0: 1}, ([0],), (0, 1, 0), (0, (1,)), Pattern(x=1),
)


class RunTest(unittest.TestCase):
    def test_ordinary(self):
        for value in ((), (0,), (0, 1), (0, 1, 1), (0,) + (1,) * 1000):
            self.assertIs(is_run(LOOP, value), True)
        for value in STRANGE + WRONG_RUNS:
            if value != ():
                self.assertIs(is_run(LOOP, value), False, value)
        self.assertIs(is_run(make_program(("x",), (1, (), 0)), (0,)), False)
        self.assertIs(is_run(LOOP, (0,) + (1,) * 50000), True)
        self.assertIs(is_run(LOOP, (0,) + (1,) * 50000 + (0,)), False)

    def test_end(self):
        self.assertEqual([end_of(LOOP, run) for run in ((), (0,), (0, 1, 1))], [0, 1, 1])
        self.assertEqual(end_of(RING, tuple(range(7))), 7)
        self.assertEqual(end_of(LOOP, (0,) + (1,) * 199), 1)

    def test_nearly_runs(self):
        for seed in range(30):
            program = random_program(seed, edges=6)
            edges = program[2]
            for run, point in all_runs(program, 3):
                self.assertIs(is_run(program, run), True)
                self.assertEqual(end_of(program, run), point)
                for k in range(len(run)):
                    for index in range(len(edges) + 1):
                        other = run[:k] + (index,) + run[k + 1:]
                        right = other in [one for one, _ in all_runs(program, 3)]
                        self.assertIs(is_run(program, other), right)
                        if not right:
                            with self.assertRaises(InvalidRun):
                                end_of(program, other)

    def test_errors(self):
        for value in STRANGE + WRONG_PROGRAMS:
            for call in (lambda: is_run(value, None), lambda: end_of(value, None), lambda: values_read(value, None),
                         lambda: state_after(value, None, entry=0)):
                with self.assertRaises(InvalidProgram):
                    call()
        for value in STRANGE + WRONG_RUNS + ((0,) + (1,) * 200,):
            if value == ():
                continue
            for call in (lambda: end_of(LOOP, value), lambda: values_read(LOOP, value), lambda: state_after(LOOP, value, entry=0)):
                with self.assertRaises(InvalidRun):
                    call()


class RunsTest(unittest.TestCase):
    def test_against_all(self):
        for seed in range(40):
            program = random_program(seed, points=4, edges=5 + seed % 3)
            expected = all_runs(program, 5)
            for longest in range(6):
                found = [one for one in expected if len(one[0]) <= longest]
                self.assertEqual(list(runs(program, longest=longest)), [run for run, _ in found])
                for point in range(4):
                    self.assertEqual(list(runs_to(program, point, longest=longest)), [run for run, end in found if end == point])

    def test_lengths(self):
        self.assertEqual(list(runs(LOOP, longest=0)), [()])
        self.assertEqual(list(runs_to(LOOP, 1, longest=0)), [])
        self.assertEqual(list(runs_to(LOOP, 0, longest=12)), [()])
        self.assertEqual(len(list(runs(LOOP, longest=12))), 13)
        self.assertEqual(list(runs_to(RING, 0, longest=12)), [(), tuple(range(12))])
        self.assertEqual(list(runs_to(RING, 11, longest=12)), [tuple(range(11))])
        self.assertEqual(list(runs(make_program(("x",), size=5), longest=12)), [()])

    def test_in_part(self):
        wide = program_from(("x",), ((0, (), 0),) * 120)
        self.assertEqual(list(itertools.islice(runs(wide, longest=12), 123)),
                         [()] + [(k,) for k in range(120)] + [(0, 0), (0, 1)])
        self.assertEqual(list(itertools.islice(runs_to(wide, 0, longest=12), 2)), [(), (0,)])

    def test_paths_that_lead_elsewhere(self):
        # From the points 1 to 11 of the ring, 9 edges more lead to a trap, and the point 12 is behind the last edge only.
        edges = tuple((k, (), (k + 1) % 12) for k in range(12)) + ((0, (), 13),) + ((13, (), 13),) * 106 + ((11, (), 12),)
        program = program_from(("x",), edges)
        self.assertEqual(list(runs_to(program, 12, longest=12)), [tuple(range(11)) + (119,)])
        self.assertEqual(list(runs_to(program, 12, longest=11)), [])
        unreached = program_from(("x",), edges[:-1], size=15)
        for point in (12, 14):
            self.assertEqual(list(runs_to(unreached, point, longest=12)), [])

    def test_dead_ends(self):
        # Many paths with eleven edges end where nothing goes on; one run has twelve.
        edges = tuple((k, (), k + 1) for k in range(11) for _ in range(9)) + tuple((k, (), k + 1) for k in range(12, 23))
        program = program_from(("x",), edges + ((0, (), 12), (23, (), 24)), size=25)
        self.assertEqual(list(runs_to(program, 23, longest=12)), [(110,) + tuple(range(99, 110))])

    def test_two_at_a_time(self):
        first, second = runs(TURN, longest=3), runs(TURN, longest=3)
        expected = [run for run, _ in all_runs(TURN, 3)]
        found = []
        for _ in expected:
            found.append((next(first), next(second)))
        self.assertEqual(found, [(run, run) for run in expected])
        self.assertEqual((list(first), list(second)), ([], []))

    def test_errors_come_with_the_first_result(self):
        for value in STRANGE + WRONG_PROGRAMS:
            for call in (lambda: runs(value, longest=None), lambda: runs_to(value, None, longest=None)):
                generator = call()
                with self.assertRaises(InvalidProgram):
                    next(generator)
        for value in STRANGE + (2, -1, (0,)):
            if value == 0 and value is not False:
                continue
            generator = runs_to(LOOP, value, longest=None)
            with self.assertRaises(InvalidNumber) as caught:
                next(generator)
            self.assertIs(caught.exception.value, value)
        for value in STRANGE + (13, -1, 10 ** 39, "1", (1,)):
            if value == 0 and value is not False:
                continue
            for generator in (runs(LOOP, longest=value), runs_to(LOOP, 1, longest=value)):
                with self.assertRaises(InvalidNumber) as caught:
                    next(generator)
                self.assertIs(caught.exception.value, value)


class StateTest(unittest.TestCase):
    def test_image(self):
        p = Pattern(x=1, y=("f", 1, 2))
        action = (("x", "y"), ("y", ("g", 7, 7, 3)))
        self.assertEqual(image(p, action), Pattern(x=("f", 1, 2), y=("g", 3, 3, 4)))
        self.assertEqual(image(p, action), p.after(action))
        self.assertEqual(image(p, ()), p)
        for value in STRANGE:
            if not isinstance(value, Pattern):
                with self.assertRaises(InvalidPattern):
                    image(value, None)
            if value not in ((), (("x", "y"),)):
                with self.assertRaises(InvalidTerm):
                    image(p, value)
        self.assertEqual(image(powers(x=498), STEP).weight, 500)
        with self.assertRaises(TooLarge) as caught:
            image(powers(x=499), STEP)
        self.assertEqual(caught.exception.limit, 500)

    def test_written(self):
        self.assertEqual(state_after(LOOP, (0, 1, 1)), Pattern(x=("f", ("f", ("a",))), y=("f", ("f", ("f", ("a",))))))
        self.assertEqual(state_after(LOOP, ()), Pattern(x=1, y=2))
        self.assertEqual(state_after(FORK, (1,)), Pattern(x=("f", 1), y=1, z=2))
        self.assertEqual(state_after(FORK, (0,)), Pattern(x=("f", 1), y=1, z=1))
        self.assertEqual(state_after(FORK, (0,), entry=Pattern(x=1, y=1, z=("a",))), Pattern(x=("f", ("a",)), y=("a",), z=("a",)))

    def test_reads(self):
        program = make_program(("x", "y"), (0, (("x", 1),), 1), (1, (("y", 1),), 2), (0, (("x", 5), ("y", ("f", 5, 2))), 1),
                               (1, (("x", ("g", "x", 7)),), 1))
        self.assertEqual(state_after(program, (0, 1)), Pattern(x=1, y=2))
        self.assertEqual(state_after(program, (2,)), Pattern(x=1, y=("f", 1, 2)))
        self.assertEqual(state_after(program, (0, 3, 3)), Pattern(x=("g", ("g", 1, 2), 3), y=4))
        same = Pattern(x=1, y=1)
        self.assertEqual(state_after(program, (0,), entry=same), Pattern(x=1, y=2))
        self.assertEqual(state_after(program, (0, 1), entry=same), Pattern(x=1, y=2))
        self.assertEqual([values_read(program, run) for run in ((), (0,), (0, 1), (2,), (2, 1), (0, 3, 3, 3))], [0, 1, 2, 2, 3, 4])

    def test_against_hand(self):
        for seed in range(60):
            program = random_program(seed, edges=6, height=2)
            one = rng(seed)
            values = random_values(one, program[0], 2, 1) if seed % 2 else None
            entry = None if values is None else pattern(values)
            for run, _ in all_runs(program, 3):
                self.assertEqual(form(state_after(program, run, entry=entry)), shared_form(values_after(program, run, values)))
                many = sum(len({one for _, term in program[2][index][1] for one in integers(term)}) for index in run)
                self.assertEqual(values_read(program, run), many)

    def test_entry_left_out(self):
        for run in ((), (0,), (0, 1)):
            self.assertEqual(state_after(LOOP, run), state_after(LOOP, run, entry=None))
            self.assertEqual(state_after(LOOP, run), state_after(LOOP, run, entry=Pattern(x=1, y=2)))

    def test_weights(self):
        program = make_program(("x", "y"), (0, STEP, 0), (0, (("x", "y"),), 0))
        self.assertEqual(state_after(program, (0,) * 200, entry=powers(x=299, y=0)).weight, 500)
        self.assertEqual(state_after(program, (0,) * 199 + (1,), entry=powers(x=299, y=0)).weight, 1)
        for run in ((0,) * 200, (0,) * 199 + (0,), (0,) * 198 + (0, 0)):
            with self.assertRaises(TooLarge) as caught:
                state_after(program, run, entry=powers(x=300, y=0))
            self.assertEqual(caught.exception.limit, 500)
        # Too great on the way, and small in the end.
        with self.assertRaises(TooLarge):
            state_after(program, (0, 1), entry=powers(x=499, y=0))
        self.assertEqual(state_after(program, (0, 1), entry=powers(x=498, y=0)), Pattern(x=1, y=1))

    def test_great_values(self):
        program = make_program(("x",), (0, (("x", ("d", "x", "x")),), 0))
        self.assertEqual(state_after(program, (0,) * 200).size("x"), 2 ** 201 - 1)
        self.assertEqual(state_after(program, (0,) * 200), stepped(Pattern(x=1), (("x", ("d", "x", "x")),), 200))

    def test_entry_errors(self):
        for value in STRANGE + (Pattern(x=1), Pattern(x=1, y=1, z=1), {"x": 1, "y": 2}):
            if value is None:
                continue
            with self.assertRaises(InvalidPattern):
                state_after(LOOP, (), entry=value)
        with self.assertRaises(InvalidPattern):
            state_after(make_program(("x",), (0, STEP, 0)), (0,) * 200, entry=powers(y=499))

    def test_defined_there(self):
        for name in ("is_run", "end_of", "runs", "runs_to", "image", "state_after", "values_read"):
            self.assertEqual(getattr(module, name).__module__, "termpaths.programs.runs")


if __name__ == "__main__":
    unittest.main()
