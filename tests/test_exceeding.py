"""[13.1], [17.1]: runs after which a name is too high."""

import unittest

from tests.hand import FORK, LOOP, NAMES, all_runs, pattern, random_program, values_after
from tests.reference import powers, random_values, rng, tall
from tests.test_heights import AROUND, height_of_value
from termpaths.bounds.exceeding import exceeding_run
from termpaths.bounds.heights import greatest_height, height_after
from termpaths.patterns.patterns import Pattern
from termpaths.programs.programs import make_program, program_from, reached_points
from termpaths.programs.runs import end_of, run_end


def run_above(program, point, name, most, entry=None):
    start = Pattern.free(*program[0]) if entry is None else entry
    return exceeding_run(program, start, point, name, most)


class ExceedingTest(unittest.TestCase):
    def test_ordinary(self):
        self.assertEqual(run_above(FORK, 1, "x", 0), (0,))
        self.assertIsNone(run_above(FORK, 1, "x", 1))
        self.assertEqual(run_above(LOOP, 1, "x", 0), (0, 1))
        self.assertEqual(run_above(LOOP, 1, "x", 60), (0,) + (1,) * 61)
        self.assertEqual(run_above(LOOP, 1, "y", 60), (0,) + (1,) * 60)
        self.assertIsNone(run_above(LOOP, 0, "y", 0))
        self.assertEqual(run_above(LOOP, 0, "y", 4, powers(x=1, y=5)), ())
        self.assertEqual(run_above(AROUND, 2, "z", 60)[-1], 2)

    def test_points_that_no_run_reaches(self):
        program = make_program(("x",), (1, (("x", tall(7)),), 1), size=3)
        for point in (1, 2):
            self.assertIsNone(run_above(program, point, "x", 0))

    def test_terms_alone(self):
        # The height comes from a term of an edge far from the entry, where no name goes into it.
        program = make_program(("x", "y"), (0, (), 1), (1, (("x", ("f", ("f", ("a",)))),), 2), (2, (("x", 1), ("y", ("g", "x", "x"))), 3))
        self.assertEqual(run_above(program, 3, "y", 2), (0, 1, 2))
        self.assertIsNone(run_above(program, 3, "y", 3))
        self.assertIsNone(run_above(program, 3, "x", 0))

    def test_random(self):
        found = [0, 0]
        for seed in range(150):
            program = random_program(seed, points=3, edges=5, height=2)
            values = random_values(rng(seed), NAMES, 2, 2) if seed % 3 else None
            entry = None if values is None else pattern(values)
            behind = [(run, point, values_after(program, run, values)) for run, point in all_runs(program, 3)]
            for point in reached_points(program):
                for name in NAMES:
                    bound = greatest_height(program, point, name, entry=entry)
                    for most in (0, 1, 3, 6, 60):
                        run = run_above(program, point, name, most, entry)
                        found[run is None] += 1
                        self.assertEqual(run is None, bound is not None and bound <= most)
                        lengths = [len(one) for one, end, state in behind if end == point and height_of_value(state[name]) > most]
                        if lengths:
                            self.assertEqual(len(run), min(lengths))
                        elif run is not None:
                            self.assertGreater(len(run), 3)
                        if run is not None and len(run) <= 200:
                            self.assertEqual(end_of(program, run), point)
                            self.assertGreater(height_after(program, run, name, entry=entry), most)
        self.assertTrue(min(found) > 100)

    def test_long_ways(self):
        # The value moves through all names and points before it becomes greater.
        names = tuple("abcdefghij")
        turn = tuple((names[k], names[k - 1]) for k in range(10))
        edges = tuple((k, turn if k else tuple((name, ("s", old) if name == "a" else old) for name, old in turn), (k + 1) % 60) for k in range(60))
        program = program_from(names, edges)
        run = run_above(program, 0, "j", 60)
        self.assertEqual(run_end(program, run), 0)
        # Each round turns all values six times and makes one of them higher.
        self.assertEqual(len(run), 60 * 61)
        self.assertIsNone(run_above(program, 0, "a", 0))
        slow = program_from(names, tuple((k, (), (k + 1) % 60) for k in range(59)) + ((59, tuple((name, ("s", old) if name == "a" else old) for name, old in turn), 0),))
        self.assertEqual(len(run_above(slow, 0, "a", 6)), 60 * 61)
        self.assertEqual(len(run_above(slow, 0, "a", 60)), 60 * 601)


if __name__ == "__main__":
    unittest.main()
