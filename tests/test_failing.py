"""[0.15], [9.2], [10.1], stage 10: failing runs of equalities and of shapes."""

import itertools
import unittest

from tests.hand import (
    FORK, LOOP, NAMES, TURN, all_runs, fails_by_hand, misfits_by_hand, pattern, random_program,
)
from tests.reference import STRANGE, powers, random_term, random_values, rng
from tests.test_programs import WRONG_PROGRAMS
from termpaths.errors import (
    InvalidNumber, InvalidOperation, InvalidPattern, InvalidProgram, InvalidTerm, TooLarge,
)
from termpaths.patterns.patterns import Pattern
from termpaths.programs.programs import make_program, program_from
from termpaths.programs.runs import is_run, state_after
from termpaths.questions import failing as module
from termpaths.questions.equalities import holds
from termpaths.questions.failing import failing_lengths, failing_runs, shortest_failing, shortest_misfit
from termpaths.tables.tables import table

TEN = tuple("abcdefghij")
SAME = Pattern(x=1, y=1, z=2)
WRONG_TERMS = ("v", ("f", "v"), 1, ("f", 1), ("f", "x", 3), None, [], {}, "X", ("F",), True, ("f", ["x"]), Pattern(x=1), ())


def shifted(names):
    """Return the action that gives each name the value of the next one."""
    return tuple((names[k], names[(k + 1) % len(names)]) for k in range(len(names)))


def ring(points):
    """Return a program whose runs go round some points; each edge moves the values of ten names on by one."""
    edges = tuple((k, shifted(TEN), (k + 1) % points) for k in range(points))
    return program_from(TEN, edges + ((points - 1, (), points),))


def all_but(*names):
    """Return the pattern in which ten names have one value, but for some that have another one."""
    return Pattern.of({name: 2 if name in names else 1 for name in TEN})


class ShortestTest(unittest.TestCase):
    def test_written(self):
        self.assertEqual(shortest_failing(TURN, 1, "x", "y", entry=SAME), (0, 1))
        self.assertIs(shortest_failing(TURN, 1, "x", "y", entry=Pattern(x=1, y=1, z=1)), None)
        self.assertEqual(shortest_failing(TURN, 1, "x", "y"), (1,))
        self.assertEqual(shortest_failing(TURN, 0, "x", "y"), ())
        self.assertEqual(shortest_failing(LOOP, 1, "x", ("a",)), (0, 1))
        self.assertIs(shortest_failing(LOOP, 1, "y", ("f", "x")), None)
        self.assertEqual(shortest_failing(LOOP, 1, "y", "x"), (0,))
        self.assertEqual(shortest_failing(FORK, 1, "y", "z"), (1,))
        self.assertEqual(shortest_misfit(LOOP, 1, Pattern(x=("a",))), (0, 1))
        self.assertEqual(shortest_misfit(LOOP, 1, Pattern(x=("f", 1))), (0,))
        self.assertEqual(shortest_misfit(FORK, 1, Pattern(y=1, z=1)), (1,))
        self.assertIs(shortest_misfit(LOOP, 1, Pattern(x=1, y=("f", 1))), None)

    def test_no_run_leads_there(self):
        program = make_program(("x", "y"), (1, (("x", ("f", "x")),), 1), (0, (), 0), size=3)
        for point in (1, 2):
            self.assertIs(shortest_failing(program, point, "x", ("f", "x")), None)
            self.assertIs(shortest_misfit(program, point, Pattern(x=("f", 1))), None)
            self.assertEqual(failing_lengths(program, point, "x", "y", longest=60), ())
            self.assertEqual(list(failing_runs(program, point, "x", "y", length=3)), [])

    def test_terms_that_are_never_equal(self):
        program = make_program(("x",), (0, (), 1), (1, (), 1), (1, (), 2), (0, (("x", 1),), 1))
        self.assertEqual(shortest_failing(program, 2, "x", ("f", "x")), (0, 2))
        self.assertEqual(shortest_failing(program, 2, ("a",), ("b",)), (0, 2))
        self.assertEqual(shortest_failing(program, 0, ("a",), ("b",)), ())
        self.assertEqual(shortest_misfit(program, 2, Pattern(x=("a",))), (0, 2))
        self.assertEqual(shortest_misfit(program, 2, Pattern(x=("a",)), entry=Pattern(x=("a",))), (3, 2))

    def test_smallest_of_several(self):
        f, g = (("x", ("f", "y")),), (("x", ("g", "y")),)
        program = make_program(("x", "y"), (1, f, 2), (0, (), 1), (1, g, 2), (0, (), 3), (3, g, 2), (0, (), 1), (1, g, 2))
        self.assertEqual(shortest_failing(program, 2, "x", ("f", "y")), (1, 2))
        self.assertEqual(shortest_failing(program, 2, "x", ("g", "y")), (1, 0))
        self.assertEqual(shortest_misfit(program, 2, Pattern(x=("f", 1))), (1, 2))
        late = make_program(("x", "y"), (0, (), 1), (1, f, 2), (0, (("y", ("a",)),), 1), (0, (("y", ("b",)),), 1))
        self.assertEqual(shortest_failing(late, 2, "x", ("f", ("a",)), entry=Pattern(x=1, y=("a",))), (3, 1))

    def test_against_all_runs(self):
        lengths = {}
        for seed in range(400):
            program = random_program(seed, points=3, edges=4 + seed % 2)
            one = rng(seed)
            values = random_values(one, NAMES, 2, 1) if seed % 3 else None
            entry = None if values is None else pattern(values)
            e, f = random_term(one, NAMES, 1), random_term(one, NAMES, one.randrange(2))
            runs = [run for run, point in all_runs(program, 5) if point == 1 and fails_by_hand(program, run, e, f, values)]
            self.assertEqual(failing_lengths(program, 1, e, f, longest=5, entry=entry), tuple(sorted({len(run) for run in runs})))
            for length in range(6):
                expected = [run for run in runs if len(run) == length]
                self.assertEqual(list(failing_runs(program, 1, e, f, length=length, entry=entry)), expected)
            found = shortest_failing(program, 1, e, f, entry=entry)
            lengths[None if found is None else len(found)] = lengths.get(None if found is None else len(found), 0) + 1
            if runs:
                self.assertEqual(found, runs[0])
            elif found is None:
                self.assertIs(table(program, entry=entry)[1].same(e, f), True)
            else:
                self.assertGreater(len(found), 5)
                self.assertIs(fails_by_hand(program, found, e, f, values), True)
        for length in (None, 1, 2, 3):
            self.assertGreater(lengths.get(length, 0), 1)

    def test_shapes_against_all_runs(self):
        lengths = {}
        for seed in range(300):
            program = random_program(seed, points=3, edges=4 + seed % 2, height=2)
            one = rng(seed)
            values = random_values(one, NAMES, 2, 1) if seed % 3 else None
            entry = None if values is None else pattern(values)
            shape = random_values(one, NAMES[one.randrange(2):1 + one.randrange(1, 3)], 2, 1)
            least = table(program, entry=entry).get(1)
            if one.randrange(3) and least is not None:
                shape = {name: value for name, value in {name: least.only(name) for name in shape}.items()}
                shape = {name: shape[name][name] for name in shape if shape[name].size(name) < 60 and shape[name].height(name) < 8}
                shape = shape if shape else {"x": 1}
            runs = [run for run, point in all_runs(program, 4) if point == 1 and misfits_by_hand(program, run, shape, values)]
            found = shortest_misfit(program, 1, pattern(shape), entry=entry)
            lengths[None if found is None else len(found)] = lengths.get(None if found is None else len(found), 0) + 1
            if runs:
                self.assertEqual(found, runs[0])
            elif found is not None:
                self.assertGreater(len(found), 4)
                self.assertIs(misfits_by_hand(program, found, shape, values), True)
            else:
                self.assertLessEqual(least.only(*shape), pattern(shape))
        for length in (None, 1, 2):
            self.assertGreater(lengths.get(length, 0), 1)

    def test_longer_than_there_are_points(self):
        turn = make_program(TEN, (0, shifted(TEN), 0), (0, (), 1))
        self.assertEqual(shortest_failing(turn, 1, "a", "b", entry=all_but("j")), (0,) * 8 + (1,))
        self.assertEqual(shortest_failing(turn, 0, "a", "b", entry=all_but("j")), (0,) * 8)
        for points in (3, 7):
            program = ring(points)
            # The point behind the ring is reached after k * points edges, of which points * k - 1 move the values on.
            for name in ("c", "f", "j"):
                entry = all_but(name)
                steps = [k for k in range(1, 80) if (k + 1) % points == 0 and TEN.index(name) in (k % 10, (k + 1) % 10)]
                expected = tuple(k % points for k in range(steps[0])) + (points,)
                self.assertEqual(shortest_failing(program, points, "a", "b", entry=entry), expected)
                self.assertEqual(shortest_misfit(program, points, Pattern(a=1, b=1), entry=entry), expected)
        self.assertEqual(len(shortest_failing(ring(7), 7, "a", "b", entry=all_but("j"))), 49)
        self.assertEqual(len(shortest_failing(ring(9), 9, "a", "b", entry=all_but("b", "c", "d", "e", "f", "g", "h"))), 18)

    def test_some_dozens_of_edges_with_many_runs(self):
        # At each point two edges do the same, so that there are very many runs of the length of the least one.
        program = ring(7)
        twice = program_from(TEN, program[2] + program[2])
        entry = all_but("j")
        expected = shortest_failing(program, 7, "a", "b", entry=entry)
        self.assertEqual(shortest_failing(twice, 7, "a", "b", entry=entry), expected)
        self.assertEqual(len(expected), 49)
        found = failing_runs(twice, 7, "a", "b", length=49, entry=entry)
        self.assertEqual(list(itertools.islice(found, 2)), [expected, expected[:-1] + (15,)])
        self.assertEqual(failing_lengths(twice, 7, "a", "b", longest=60, entry=entry), (49,))

    def test_failing_ones_far_behind(self):
        # Sixty points in a row, and only the last step goes wrong.
        steps = tuple((k, (("x", ("s", "x")), ("y", ("s", "y"))), k + 1) for k in range(58))
        program = program_from(("x", "y"), steps + ((58, (("x", ("s", "y")),), 59), (58, (("y", ("s", "x")),), 59)))
        same = Pattern(x=1, y=1)
        self.assertIs(shortest_failing(program, 58, "x", "y", entry=same), None)
        self.assertEqual(shortest_failing(program, 59, "x", "y", entry=same), tuple(range(58)) + (58,))
        self.assertIs(shortest_failing(program, 59, ("s", "y"), ("s", "y"), entry=same), None)
        self.assertEqual(shortest_failing(program, 59, "x", ("s", "y"), entry=same), tuple(range(58)) + (59,))

    def test_common_patterns_that_become_too_great(self):
        # The runs with exactly k edges have a common pattern whose weight grows as 2 ** k; the table stays small.
        mixed = (("u", ("d", "u", "v")), ("v", ("d", "v", "u")))
        doubled = (("u", ("d", "u", "u")), ("v", ("d", "v", "v")))
        names = TEN + ("u", "v")
        names = names[4:]
        turned = tuple(sorted(shifted(names[:6])))
        edges = ((0, tuple(sorted(turned + mixed)), 0), (0, tuple(sorted(turned + doubled)), 0))
        program = program_from(names, edges)
        entry = Pattern.of({**{name: 1 for name in names[:6]}, names[5]: 2, "u": 3, "v": 4})
        self.assertEqual(shortest_failing(program, 0, names[0], names[1], entry=entry), (0,) * 4)
        self.assertEqual(shortest_failing(program, 0, "u", "v", entry=entry), ())
        with self.assertRaises(TooLarge):
            failing_lengths(program, 0, "u", "v", longest=12, entry=entry)

    def test_great_states_on_the_way(self):
        # The states along the failing run have greater weights than patterns have; those of the table are small.
        longer = tuple((k, (("x", ("s", "x")),), k + 1) for k in range(13))
        others = tuple((0, (("x", ("b",)), ("y", "z")), k) for k in range(1, 14))
        program = program_from(NAMES, longer + others)
        entry = powers(x=490).beside(Pattern(y=1, z=2))
        run = tuple(range(13))
        with self.assertRaises(TooLarge):
            state_after(program, run, entry=entry)
        self.assertEqual(shortest_failing(program, 13, "y", "z", entry=entry), run)
        self.assertEqual(shortest_misfit(program, 13, Pattern(x=1, y=2, z=2), entry=entry), run)


class WeightTest(unittest.TestCase):
    def test_as_for_the_table(self):
        step = make_program(("x", "y"), (0, (("x", ("s", "x")),), 1))
        self.assertEqual(shortest_failing(step, 1, "x", "y", entry=powers(x=498, y=0)), (0,))
        for call in (lambda: shortest_failing(step, 0, "x", "y", entry=powers(x=499, y=0)),
                     lambda: shortest_failing(step, 0, "x", "x", entry=powers(x=499, y=0)),
                     lambda: shortest_misfit(step, 0, Pattern(x=("a",)), entry=powers(x=499, y=0))):
            with self.assertRaises(TooLarge) as caught:
                call()
            self.assertEqual(caught.exception.limit, 500)

    def test_exact_lengths(self):
        # Behind k edges x has k signs more; the table has a hole there.
        program = make_program(("x", "y"), (0, (("x", ("s", "x")),), 0))
        entry = powers(x=450, y=0)
        for length in (0, 49, 50, 60):
            if length < 50:
                self.assertEqual(failing_lengths(program, 0, "x", "y", longest=length, entry=entry), tuple(range(length + 1)))
                self.assertEqual(list(failing_runs(program, 0, "x", "y", length=length, entry=entry)), [(0,) * length])
                continue
            for call in (lambda: failing_lengths(program, 0, "x", "x", longest=length, entry=entry),
                         lambda: next(failing_runs(program, 0, "x", "x", length=length, entry=entry))):
                with self.assertRaises(TooLarge) as caught:
                    call()
                self.assertEqual(caught.exception.limit, 500)

    def test_other_points_count(self):
        # The point 1 is reached by one edge, and at the point 2 a value grows, of which the point 1 knows nothing.
        program = make_program(("x", "y"), (0, (), 1), (0, (), 2), (2, (("x", ("s", "x")),), 2))
        entry = powers(x=490, y=0)
        self.assertEqual(failing_lengths(program, 1, "x", "y", longest=10, entry=entry), (1,))
        with self.assertRaises(TooLarge):
            failing_lengths(program, 1, "x", "y", longest=11, entry=entry)
        self.assertEqual(list(failing_runs(program, 1, "x", "y", length=10, entry=entry)), [])
        with self.assertRaises(TooLarge):
            list(failing_runs(program, 1, "x", "y", length=11, entry=entry))
        self.assertEqual(list(failing_runs(program, 1, "x", "y", length=1, entry=entry)), [(0,)])

    def test_joined_in_the_order_of_edges(self):
        first, second, small = (0, (), 1), (0, (("x", "y"), ("y", "x")), 1), (0, (("x", ("a",)),), 1)
        entry = powers(x=300, y=250)
        for edges in ((first, small, second), (small, first, second)):
            self.assertEqual(failing_lengths(make_program(("x", "y"), *edges), 1, "x", "y", longest=3, entry=entry), (1,))
        for edges in ((first, second, small), (second, first, small)):
            with self.assertRaises(TooLarge):
                failing_lengths(make_program(("x", "y"), *edges), 1, "x", "y", longest=3, entry=entry)
            self.assertEqual(failing_lengths(make_program(("x", "y"), *edges), 1, "x", "y", longest=0, entry=entry), ())

    def test_rounds_do_not_count(self):
        # The runs with at most one edge have a common pattern that is too great; those with exactly one are small.
        program = make_program(("x", "y"), (0, (("x", "y"), ("y", "x")), 0))
        entry = powers(x=300, y=250)
        self.assertEqual(failing_lengths(program, 0, "x", "y", longest=4, entry=entry), (0, 1, 2, 3, 4))
        with self.assertRaises(TooLarge):
            shortest_failing(program, 0, "x", "y", entry=entry)


class LengthsTest(unittest.TestCase):
    def test_come_and_go(self):
        self.assertEqual(failing_lengths(TURN, 1, "x", "y", longest=5, entry=SAME), (2, 3, 5))
        expected = tuple(k for k in range(61) if k and (k - 1) % 3 in (1, 2))
        self.assertEqual(failing_lengths(TURN, 1, "x", "y", longest=60, entry=SAME), expected)
        self.assertEqual(failing_lengths(TURN, 0, "x", "y", longest=0, entry=SAME), ())
        self.assertEqual(failing_lengths(TURN, 0, "x", "z", longest=0, entry=SAME), (0,))
        self.assertEqual(failing_lengths(FORK, 1, "x", "y", longest=60), (1,))
        self.assertEqual(failing_lengths(LOOP, 1, "x", ("a",), longest=4), (2, 3, 4))

    def test_runs_of_each_length(self):
        for length in (0, 1, 4, 7):
            self.assertEqual(list(failing_runs(TURN, 1, "x", "y", length=length, entry=SAME)), [])
        for length in (2, 3, 59, 60):
            self.assertEqual(list(failing_runs(TURN, 1, "x", "y", length=length, entry=SAME)), [(0,) * (length - 1) + (1,)])

    def test_against_a_program_without_loops(self):
        # The point u of the layer k of the other program is reached by the runs with exactly k edges that lead to u.
        shown = set()
        for seed in range(80):
            program = random_program(seed, points=4, edges=5 + seed % 3, height=seed % 2)
            layers = tuple((4 * k + a, action, 4 * k + 4 + b) for k in range(13) for a, action, b in program[2])
            unrolled = program_from(NAMES, layers, size=56)
            one = rng(seed)
            entry = pattern(random_values(one, NAMES, 2, 1))
            e, f = random_term(one, NAMES, seed % 2), random_term(one, NAMES, 0)
            expected = tuple(k for k in range(14) if not holds(unrolled, 4 * k + 1, e, f, entry=entry))
            self.assertEqual(failing_lengths(program, 1, e, f, longest=13, entry=entry), expected)
            shown.add(expected)
            for k in (11, 12, 13):
                found = failing_runs(program, 1, e, f, length=k, entry=entry)
                self.assertIs(next(found, None) is not None, k in expected)
        self.assertGreater(len(shown), 8)

    def test_in_part(self):
        program = make_program(("x", "y"), (0, (("x", ("f", "x")),), 0), (0, (("y", ("f", "y")),), 0))
        found = failing_runs(program, 0, "x", "y", length=60)
        self.assertEqual([next(found), next(found)], [(0,) * 60, (0,) * 59 + (1,)])
        other = failing_runs(program, 0, "x", "y", length=2, entry=Pattern(x=1, y=1))
        again = failing_runs(program, 0, "x", "y", length=2, entry=Pattern(x=1, y=1))
        self.assertEqual([next(other), next(again), next(other), next(again)], [(0, 0), (0, 0), (1, 1), (1, 1)])
        self.assertEqual((list(other), list(again)), ([], []))

    def test_few_of_many(self):
        # Of 3 ** 60 runs, those in which x is turned an odd number of times fail only if the last edge is the third one.
        turn, stay, spoil = (("x", "y"), ("y", "x")), (), (("y", ("b",)),)
        program = make_program(("x", "y"), (0, turn, 0), (0, stay, 0), (0, turn, 1), (1, (), 2), (1, spoil, 2))
        entry = Pattern(x=("a",), y=("a",))
        found = failing_runs(program, 2, "x", "y", length=60, entry=entry)
        self.assertEqual([next(found), next(found)], [(0,) * 58 + (2, 4), (0,) * 57 + (1, 2, 4)])
        # One run after which both names differ is the first one: it never adds a sign.
        steps = tuple((k, (("x", ("s", "x")),) if turn else (), k + 1) for k in range(40) for turn in (0, 1))
        program = program_from(("x", "y"), steps + ((40, (), 41),))
        deepest = powers(x=0, y=40)
        fails = failing_runs(program, 41, "x", "y", length=41, entry=deepest)
        self.assertEqual(next(fails), tuple(2 * k for k in range(40)) + (80,))

    def test_one_that_fails(self):
        # The values of x, y and z are moved on by one or by two; z is the one that is different.
        one, two = shifted(NAMES), shifted(NAMES[::-1])
        program = make_program(NAMES, (0, one, 1), (0, tuple(sorted(two)), 1), (1, (), 2), (2, one, 3), (2, tuple(sorted(two)), 3))
        expected = [run for run, point in all_runs(program, 3) if point == 3 and fails_by_hand(program, run, "x", "y", {"x": 1, "y": 1, "z": 2})]
        self.assertEqual(list(failing_runs(program, 3, "x", "y", length=3, entry=SAME)), expected)
        self.assertEqual(len(expected), 2)

    def test_reads(self):
        program = make_program(("x", "y"), (0, (("x", 1), ("y", 1)), 0), (0, (("x", 1),), 0), (0, (("x", 1), ("y", 2)), 0))
        same = Pattern(x=1, y=1)
        self.assertEqual(list(failing_runs(program, 0, "x", "y", length=1, entry=same)), [(1,), (2,)])
        self.assertEqual(list(failing_runs(program, 0, "x", "y", length=2, entry=same)), [(0, 1), (0, 2), (1, 1), (1, 2), (2, 1), (2, 2)])
        self.assertEqual(shortest_failing(program, 0, "x", "y", entry=same), (1,))
        self.assertEqual(shortest_failing(program, 0, "y", ("f", "x"), entry=Pattern(x=1, y=("f", 1))), (0,))

    def test_runs_are_runs(self):
        for run in failing_runs(TURN, 1, "x", "y", length=5, entry=SAME):
            self.assertIs(is_run(TURN, run), True)


class ErrorsTest(unittest.TestCase):
    SHAPE = Pattern(x=1)

    def calls(self, program, point, e, f, number, entry):
        return (
            lambda: shortest_failing(program, point, e, f, entry=entry),
            lambda: next(failing_runs(program, point, e, f, length=number, entry=entry)),
            lambda: failing_lengths(program, point, e, f, longest=number, entry=entry),
        )

    def test_programs_and_points(self):
        for value in STRANGE + WRONG_PROGRAMS:
            for call in self.calls(value, None, 1, 1, None, 0) + (lambda: shortest_misfit(value, None, None, entry=0),):
                with self.assertRaises(InvalidProgram):
                    call()
        for value in STRANGE + (2, -1, (0,), "0"):
            if value == 0 and value is not False:
                continue
            for call in self.calls(LOOP, value, 1, 1, None, 0) + (lambda: shortest_misfit(LOOP, value, None, entry=0),):
                with self.assertRaises(InvalidNumber) as caught:
                    call()
                self.assertIs(caught.exception.value, value)

    def test_terms(self):
        for value in WRONG_TERMS:
            for e, f in ((value, "x"), ("x", value), (value, value)):
                for call in self.calls(LOOP, 1, e, f, None, 0):
                    with self.assertRaises(InvalidTerm):
                        call()

    def test_shapes(self):
        for value in STRANGE:
            if not isinstance(value, Pattern):
                with self.assertRaises(InvalidPattern):
                    shortest_misfit(LOOP, 1, value, entry=0)
        for value in (Pattern(z=1), Pattern(x=1, z=1), Pattern(x=1, y=1, z=1)):
            with self.assertRaises(InvalidOperation):
                shortest_misfit(LOOP, 1, value, entry=0)

    def test_numbers(self):
        for value in STRANGE + (61, -1, "1", (1,), 10 ** 39):
            if value == 0 and value is not False:
                continue
            for call in self.calls(LOOP, 1, "x", "y", value, 0)[1:]:
                with self.assertRaises(InvalidNumber) as caught:
                    call()
                self.assertIs(caught.exception.value, value)
        for value in (0, 60):
            self.assertEqual(len(failing_lengths(LOOP, 1, "x", "y", longest=value)), value)
            self.assertEqual(len(list(failing_runs(LOOP, 1, "x", "y", length=value))), min(value, 1))

    def test_entries(self):
        for value in STRANGE + (Pattern(x=1), Pattern(x=1, y=1, z=1)):
            if value is not None:
                for call in self.calls(LOOP, 1, "x", "y", 60, value) + (lambda: shortest_misfit(LOOP, 1, self.SHAPE, entry=value),):
                    with self.assertRaises(InvalidPattern):
                        call()
        # Behind the entry comes what is too large.
        program = make_program(("x",), (0, (("x", ("s", "x")),), 0))
        for call in self.calls(program, 0, "x", "x", 1, powers(x=499)):
            with self.assertRaises(TooLarge):
                call()

    def test_with_the_first_result(self):
        failing_runs(None, None, None, None, length=None)

    def test_defined_there(self):
        for name in ("shortest_failing", "shortest_misfit", "failing_runs", "failing_lengths"):
            self.assertEqual(getattr(module, name).__module__, "termpaths.questions.failing")


if __name__ == "__main__":
    unittest.main()
