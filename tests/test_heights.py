"""[0.9], [13.1], [13.2], stage 13: heights and sizes."""

import unittest

from tests.hand import (
    FORK, LOOP, NAMES, TURN, all_runs, pattern, random_program, values_after,
)
from tests.reference import STRANGE, powers, random_values, rng, stepped, tall, written
from tests.test_failing import TEN, shifted
from tests.test_programs import WRONG_PROGRAMS
from tests.test_runs import WRONG_RUNS
from termpaths.bounds import heights as module
from termpaths.bounds.heights import (
    greatest_height, height_after, height_paper, heights, is_height_paper, size_after,
)
from termpaths.errors import InvalidNumber, InvalidPattern, InvalidProgram, InvalidRun, UnknownName
from termpaths.patterns.patterns import Pattern
from termpaths.programs.programs import make_program, program_from, reached_points, renamed_program, renumbered
from termpaths.programs.runs import end_of

# x is copied through y and through the point 1; it becomes greater only on the way from 0 to 1.
AROUND = make_program(NAMES, (0, (("y", ("f", "x")),), 1), (1, (("x", "y"),), 0), (1, (("z", ("g", "x", "y")),), 2))
WRONG_NAMES = ("v", "X", "", None, 0, True, (), ("x",), ["x"], {}, "xx", 10 ** 39, Pattern(x=1))


def height_of_value(term):
    return 1 + max(height_of_value(inner) for inner in term[1:]) if isinstance(term, tuple) and len(term) > 1 else 0


class AfterTest(unittest.TestCase):
    def test_written(self):
        self.assertEqual([height_after(LOOP, (0, 1, 1), "y"), size_after(LOOP, (0, 1, 1), "y")], [3, 4])
        self.assertEqual([height_after(LOOP, (), "y"), size_after(LOOP, (), "y")], [0, 1])

    def test_random(self):
        for seed in range(60):
            program = random_program(seed, edges=5, height=2)
            values = random_values(rng(seed), NAMES, 2, 2) if seed % 3 else None
            entry = None if values is None else pattern(values)
            for run, _ in all_runs(program, 3):
                state = values_after(program, run, values)
                for name in NAMES:
                    self.assertEqual(height_after(program, run, name, entry=entry), height_of_value(state[name]))
                    self.assertEqual(size_after(program, run, name, entry=entry), written(state[name]))

    def test_great_values(self):
        double = make_program(("x", "y"), (0, (("x", ("d", "x", "x")), ("y", 1)), 0))
        self.assertEqual(size_after(double, (0,) * 200, "x"), 2 ** 201 - 1)
        self.assertEqual(height_after(double, (0,) * 200, "x"), 200)
        self.assertEqual([size_after(double, (0,) * 200, "y"), height_after(double, (0,) * 200, "y")], [1, 0])
        third = make_program(("x",), (0, (("x", ("t", "x", ("t", "x", "x", "x"), "x")),), 0))
        self.assertEqual(size_after(third, (0,) * 200, "x"), (7 * 5 ** 200 - 2 - 5 ** 200) // 4)
        entry = powers(x=499, y=0)
        step = make_program(("x", "y"), (0, (("x", tall(7)),), 0))
        self.assertEqual(height_after(step, (0,) * 200, "x", entry=entry), 499 + 1400)
        self.assertEqual(size_after(step, (0,) * 200, "x", entry=entry), 500 + 1400)
        great = stepped(Pattern(x=1), (("x", ("d", "x", "x")),), 499)
        self.assertEqual(size_after(make_program(("x",), (0, (("x", ("s", "x")),), 0)), (0,), "x", entry=great), 2 ** 500)

    def test_errors(self):
        for call in (height_after, size_after):
            for value in STRANGE + WRONG_PROGRAMS:
                with self.assertRaises(InvalidProgram):
                    call(value, None, None, entry=0)
            for value in WRONG_RUNS + ((0,) + (1,) * 200,):
                with self.assertRaises(InvalidRun):
                    call(LOOP, value, None, entry=0)
            for value in WRONG_NAMES:
                with self.assertRaises(UnknownName) as caught:
                    call(LOOP, (0,), value, entry=0)
                self.assertIs(caught.exception.name, value)
            for value in STRANGE + (Pattern(x=1), Pattern(x=1, y=2, z=3)):
                if value is not None:
                    with self.assertRaises(InvalidPattern):
                        call(LOOP, (0,), "x", entry=value)


class GreatestTest(unittest.TestCase):
    def test_written(self):
        self.assertEqual([height_paper(LOOP, 1, "x")[0], greatest_height(FORK, 1, "x")], ["grows", 1])
        self.assertEqual(heights(LOOP), {0: {"x": 0, "y": 0}, 1: {"x": None, "y": None}})
        self.assertEqual(heights(FORK), {0: {"x": 0, "y": 0, "z": 0}, 1: {"x": 1, "y": 0, "z": 0}})
        entry = Pattern(x=("f", ("f", 1)), y=1, z=("g", ("a",)))
        self.assertEqual(heights(FORK, entry=entry), {0: {"x": 2, "y": 0, "z": 1}, 1: {"x": 2, "y": 1, "z": 1}})

    def test_through_two_names_and_two_points(self):
        self.assertEqual(heights(AROUND), {0: dict.fromkeys(NAMES[:2]) | {"z": 0}, 1: dict.fromkeys(NAMES[:2]) | {"z": 0}, 2: dict.fromkeys(NAMES)})
        copied = make_program(NAMES, (0, (("y", "x"),), 1), (1, (("x", "y"),), 0), (1, (("z", ("g", "x", "y")),), 2))
        self.assertEqual(heights(copied), {0: dict.fromkeys(NAMES, 0), 1: dict.fromkeys(NAMES, 0), 2: {"x": 0, "y": 0, "z": 1}})
        self.assertEqual(heights(copied, entry=powers(x=3, y=2, z=5)), {0: {"x": 3, "y": 3, "z": 5}, 1: {"x": 3, "y": 3, "z": 5}, 2: {"x": 3, "y": 3, "z": 4}})
        set_anew = make_program(("x",), (0, (("x", ("a",)),), 1), (1, (("x", ("f", ("f", "x"))),), 2), (2, (("x", 1),), 1))
        self.assertEqual(heights(set_anew), {0: {"x": 0}, 1: {"x": 0}, 2: {"x": 2}})

    def test_what_a_loop_adds(self):
        # y takes the value of x, which grows at the point 1 only; before the loop it is bounded.
        program = make_program(("x", "y"), (0, (), 1), (1, (("x", ("f", "x")),), 1), (1, (("y", "x"), ("x", ("a",)))[::-1], 2))
        self.assertEqual(heights(program), {0: {"x": 0, "y": 0}, 1: {"x": None, "y": 0}, 2: {"x": 0, "y": None}})
        # The loop is left out by all runs, as no run leads there.
        program = make_program(("x",), (1, (("x", ("f", "x")),), 1), (1, (), 2), (0, (), 2))
        self.assertEqual(heights(program), {0: {"x": 0}, 2: {"x": 0}})
        self.assertEqual(heights(make_program(("x",), size=3)), {0: {"x": 0}})

    def test_terms_alone(self):
        program = make_program(("x", "y"), (0, (("x", ("f", ("g", ("a",)), "y")),), 1), (0, (("x", ("f", 1, ("g", ("h", 2)))),), 2), (0, (("x", ("a",)),), 3), (0, (("x", 1),), 4))
        self.assertEqual([greatest_height(program, k, "x") for k in range(5)], [0, 2, 3, 0, 0])
        self.assertEqual(greatest_height(program, 1, "x", entry=powers(x=9, y=4)), 5)
        self.assertEqual(greatest_height(program, 2, "x", entry=powers(x=9, y=4)), 3)

    def test_points_that_no_run_reaches(self):
        program = make_program(("x",), (1, (), 0), size=2)
        self.assertIs(greatest_height(program, 1, "x"), None)
        self.assertEqual(height_paper(program, 1, "x"), ("empty",))
        self.assertIs(is_height_paper(program, 1, "x", ("empty",)), True)
        self.assertIs(is_height_paper(program, 0, "x", ("empty",)), False)

    def test_against_runs(self):
        kinds = {}
        for seed in range(250):
            program = random_program(seed, points=3, edges=4 + seed % 2, height=1 + seed % 2)
            values = random_values(rng(seed), NAMES, 2, 2) if seed % 3 else None
            entry = None if values is None else pattern(values)
            runs = all_runs(program, 6)
            states = [(point, values_after(program, run, values)) for run, point in runs]
            found = heights(program, entry=entry)
            self.assertEqual(list(found), list(reached_points(program)))
            for point in range(3):
                for name in NAMES:
                    seen = [height_of_value(state[name]) for end, state in states if end == point]
                    greatest = greatest_height(program, point, name, entry=entry)
                    paper = height_paper(program, point, name, entry=entry)
                    kinds[paper[0]] = kinds.get(paper[0], 0) + 1
                    self.assertIs(is_height_paper(program, point, name, paper, entry=entry), True)
                    if point not in found:
                        self.assertEqual((paper, greatest), (("empty",), None))
                        continue
                    self.assertEqual(greatest, found[point][name])
                    self.assertEqual(list(found[point]), list(NAMES))
                    if greatest is None:
                        self.assertEqual(paper[0], "grows")
                        _, before, loop, after, _ = paper
                        many = [height_after(program, before + loop * k + after, name, entry=entry) for k in range(8)]
                        self.assertEqual(many[4:], sorted(set(many[4:])))
                        self.assertEqual(end_of(program, before + loop + after), point)
                    else:
                        self.assertEqual(paper[0], "bounded")
                        self.assertEqual(paper[1][(point, name)], greatest)
                        self.assertEqual(height_after(program, paper[2], name, entry=entry), greatest)
                        self.assertLessEqual(max(seen), greatest)
                        if len(paper[2]) <= 6:
                            self.assertEqual(max(seen), greatest)
                        self.assertEqual(list(paper[1]), sorted(paper[1]))
        self.assertGreater(min(kinds.values()), 20)
        self.assertEqual(sorted(kinds), ["bounded", "grows"])

    def test_many_pairs(self):
        turn = shifted(TEN)
        edges = tuple((k, turn, (k + 1) % 60) for k in range(60)) + tuple((k, (("a", "b"),), (k * 7) % 60) for k in range(60))
        program = program_from(TEN, edges)
        entry = Pattern.of({name: tall(k % 8, 1) for k, name in enumerate(TEN)})
        self.assertEqual(heights(program, entry=entry), {k: dict.fromkeys(TEN, 7) for k in range(60)})
        paper = height_paper(program, 59, "a", entry=entry)
        self.assertIs(is_height_paper(program, 59, "a", paper, entry=entry), True)
        growing = program_from(TEN, edges[:-1] + ((3, (("j", ("f", "a")),), 4),))
        self.assertEqual(heights(growing), {k: dict.fromkeys(TEN) for k in range(60)})
        paper = height_paper(growing, 59, "a")
        self.assertEqual(paper[0], "grows")
        self.assertIs(is_height_paper(growing, 59, "a", paper), True)

    def test_long_ways(self):
        edges = tuple((k, (("x", tall(7)),), k + 1) for k in range(59))
        program = program_from(("x",), edges)
        self.assertEqual(greatest_height(program, 59, "x"), 413)
        self.assertEqual(greatest_height(program, 59, "x", entry=powers(x=499)), 912)
        # The greatest height comes by the longest way round ten names, and by no shorter one.
        turn = make_program(TEN, (0, shifted(TEN), 0), (0, (), 1))
        entry = Pattern.of({name: tall(5, 1) if name == "j" else 1 for name in TEN})
        paper = height_paper(turn, 1, "a", entry=entry)
        self.assertEqual(paper[2], (0,) * 9 + (1,))
        self.assertIs(is_height_paper(turn, 1, "a", paper, entry=entry), True)

    def test_renamed_and_renumbered(self):
        for seed in range(40):
            program = random_program(seed, points=4, edges=6)
            found = heights(program)
            other = {"x": "y", "y": "v", "z": "aa"}
            self.assertEqual(heights(renamed_program(program, **other)),
                             {point: {other[name]: found[point][name] for name in NAMES} for point in found})
            points = (0, 3, 1, 2)
            self.assertEqual(heights(renumbered(program, points)), {points[point]: found[point] for point in found})


class JudgeTest(unittest.TestCase):
    NUMBERS = {(0, "y"): 0, (0, "z"): 0, (1, "y"): 0}

    def judge(self, numbers, run=(1,), name="y", entry=None):
        return is_height_paper(FORK, 1, name, ("bounded", numbers, run), entry=entry)

    def test_bounded(self):
        good = self.NUMBERS
        self.assertIs(self.judge(good), True)
        self.assertIs(self.judge(good, (0,)), True)
        self.assertIs(self.judge({key: good[key] for key in sorted(good, reverse=True)}), True)
        for run in ((), (2,), (0, 0), [1], (True,), None, 1, (0, 1), (-1,)):
            self.assertIs(self.judge(good, run), False)
        for key in good:
            self.assertIs(self.judge({other: 0 for other in good if other != key}), False)
            self.assertIs(self.judge({**good, key: -1}), False)
            self.assertIs(self.judge({**good, key: True}), False)
            self.assertIs(self.judge({**good, key: None}), False)
            self.assertIs(self.judge({**good, key: "0"}), False)
            self.assertIs(self.judge({**good, key: 1}), False)
        # Numbers that are greater than they need to be, if the asked one is still the height behind the run.
        self.assertIs(self.judge({**good, (0, "x"): 10 ** 39}), True)
        self.assertIs(self.judge({**good, (1, "z"): 5, (0, "x"): 0}), True)
        self.assertIs(self.judge({**good, (1, "x"): 1}), True)
        self.assertIs(self.judge({**good, (1, "x"): 0}), False)
        for key in ((2, "x"), (1, "v"), ("x", 1), (1,), (1, "x", 0), 1, "x", None, (True, "x"), (-1, "x"), (None, "x"), (1, None)):
            self.assertIs(self.judge({**good, key: 7}), False)
        for numbers in (None, [], (), 3, "x", tuple(good.items()), list(good), {}):
            self.assertIs(self.judge(numbers), False)

    def test_entries(self):
        entry = Pattern(x=1, y=("f", 1), z=("g", ("g", 1)))
        self.assertIs(self.judge(self.NUMBERS, entry=entry), False)
        right = {(0, "y"): 1, (0, "z"): 2, (1, "y"): 2}
        self.assertIs(self.judge(right, (0,), entry=entry), True)
        self.assertIs(self.judge(right, (1,), entry=entry), False)
        self.assertIs(self.judge(right, (0,)), False)
        self.assertIs(self.judge({**right, (0, "y"): 0}, (0,), entry=entry), False)
        self.assertIs(self.judge({**right, (0, "y"): 2}, (0,), entry=entry), True)
        self.assertIs(self.judge({**right, (0, "z"): 1}, (0,), entry=entry), False)
        self.assertIs(self.judge({**right, (1, "y"): 3}, (0,), entry=entry), False)
        self.assertIs(self.judge({**right, (1, "y"): 1}, (1,), entry=entry), False)

    def test_points_that_no_run_reaches(self):
        program = make_program(("x",), (0, (), 1), (2, (("x", ("f", "x")),), 1), (2, (("x", ("f", "x")),), 2))
        self.assertIs(is_height_paper(program, 1, "x", ("bounded", {(0, "x"): 0, (1, "x"): 0}, (0,))), True)
        self.assertIs(is_height_paper(program, 1, "x", ("bounded", {(0, "x"): 0, (1, "x"): 0, (2, "x"): 0}, (0,))), False)
        self.assertIs(is_height_paper(program, 2, "x", ("empty",)), True)
        self.assertIs(is_height_paper(program, 2, "x", ("bounded", {(2, "x"): 0}, ())), False)
        self.assertIs(is_height_paper(program, 1, "x", ("grows", (), (2,), (), "x")), False)
        self.assertIs(is_height_paper(program, 2, "x", ("grows", (), (2,), (), "x")), False)

    def test_terms_of_edges(self):
        program = make_program(("x", "y"), (0, (("x", ("f", "y", ("g", ("g", 1)))),), 1), (1, (("x", "y"),), 1))
        right = {(0, "y"): 0, (1, "x"): 3, (1, "y"): 0}
        self.assertIs(is_height_paper(program, 1, "x", ("bounded", right, (0,))), True)
        self.assertIs(is_height_paper(program, 1, "x", ("bounded", right, (0, 1))), False)
        self.assertIs(is_height_paper(program, 1, "x", ("bounded", {**right, (1, "x"): 2}, (0,))), False)
        self.assertIs(is_height_paper(program, 1, "x", ("bounded", {**right, (0, "y"): 2, (1, "y"): 2}, (0,))), True)
        self.assertIs(is_height_paper(program, 1, "x", ("bounded", {**right, (0, "y"): 3, (1, "y"): 3}, (0,))), False)
        self.assertIs(is_height_paper(program, 1, "x", ("bounded", {**right, (0, "y"): 2}, (0,))), False)
        long = (0,) + (1,) * 50000
        self.assertIs(is_height_paper(program, 1, "y", ("bounded", {(0, "y"): 0, (1, "y"): 0}, long)), True)

    def test_grows(self):
        judged = (
            (((), (0,), (), "x"), False), (((0,), (1,), (), "x"), True), (((0, 1), (1,), (1, 1), "x"), True), (((0,), (1, 1), (), "x"), True),
            (((0,), (1,), (), "y"), False), (((0,), (), (), "x"), False), (((0,), (1,), (), "v"), False), (((), (1,), (), "x"), False),
            (((0,), (0,), (), "x"), False), (((0,), (1,), (0,), "x"), False), (((1,), (1,), (), "x"), False), (((0,), [1], (), "x"), False),
            (((0,), (2,), (), "x"), False), (((0,), (True,), (), "x"), False), (((0,), (1,), None, "x"), False), ((None, (1,), (), "x"), False),
            (((0,), (1,), (), None), False), (((0,), (1,), (), 1), False), (((0,), None, (), "x"), False), (([0], (1,), (), "x"), False),
            (((0,), (1,) * 30000, (1,) * 30000, "x"), True), (((0,) + (1,) * 30000, (1,), (), "x"), True), (((0,), (1,), [], "x"), False),
        )
        for value, right in judged:
            self.assertIs(is_height_paper(LOOP, 1, "x", ("grows",) + value), right)
        self.assertIs(is_height_paper(LOOP, 1, "y", ("grows", (0,), (1,), (), "x")), False)
        self.assertIs(is_height_paper(LOOP, 1, "y", ("grows", (0,), (1,), (), "y")), True)
        self.assertIs(is_height_paper(LOOP, 0, "x", ("grows", (0,), (1,), (), "x")), False)

    def test_grows_through_others(self):
        for value, right in (
            (((), (0, 1), (0,), "x"), True), (((0,), (1, 0), (), "y"), True), (((0,), (1, 0), (), "x"), False), (((), (0, 1), (0,), "y"), False),
            (((), (0, 1), (0, 1, 0), "x"), True), (((), (0,), (0,), "x"), False), (((), (0, 1), (), "x"), False), (((0, 1), (0, 1), (0,), "x"), True),
            (((), (0, 1), (0,), "z"), False), (((0,), (0, 1), (0,), "x"), False),
        ):
            self.assertIs(is_height_paper(AROUND, 1, "y", ("grows",) + value), right)
        self.assertIs(is_height_paper(AROUND, 2, "z", ("grows", (), (0, 1), (0, 2), "x")), True)
        self.assertIs(is_height_paper(AROUND, 1, "z", ("grows", (), (0, 1), (0,), "x")), False)
        # A loop that moves values on makes none of them greater.
        self.assertIs(is_height_paper(TURN, 1, "x", ("grows", (), (0, 0, 0), (1,), "x")), False)
        self.assertIs(is_height_paper(TURN, 1, "x", ("grows", (), (0,), (1,), "x")), False)
        inside = make_program(("x", "y"), (0, (("x", ("f", "y")), ("y", "x")), 0))
        self.assertIs(is_height_paper(inside, 0, "x", ("grows", (), (0,), (), "x")), False)
        self.assertIs(is_height_paper(inside, 0, "x", ("grows", (), (0, 0), (), "x")), True)
        self.assertIs(is_height_paper(inside, 0, "x", ("grows", (), (0, 0), (0,), "y")), True)
        self.assertIs(is_height_paper(inside, 0, "x", ("grows", (), (0, 0), (0,), "x")), False)

    def test_other_values(self):
        for value in STRANGE + (
            ("bounded",), ("grows",), ("empty", ()), ["empty"], ("Empty",), ("bounded", self.NUMBERS), ("bounded", self.NUMBERS, (1,), ()),
            ["bounded", self.NUMBERS, (1,)], ("grows", self.NUMBERS, (1,)), ("grows", (), (0,), ()), ("grows", (), (0,), (), "x", ()), (("empty",),),
            ("bounds", self.NUMBERS, (1,)), ("bounded", (), (0,), (), "x"), (None, self.NUMBERS, (1,)), (Pattern(x=1),), ({},), "empty",
        ):
            self.assertIs(is_height_paper(FORK, 1, "y", value), False)

    def test_words(self):
        program = make_program(("x",), (0, (("x", ("s", "x")),), 0), (0, (("x", ("a",)),), 1), size=3)
        bounded = ({(1, "x"): 0}, (1,))
        for word in ("grows", "Bounded", "empty", "", None, 0, ("bounded",)):
            self.assertIs(is_height_paper(program, 1, "x", (word,) + bounded), False)
            self.assertIs(is_height_paper(program, 2, "x", (word,)), word == "empty")
            self.assertIs(is_height_paper(program, 0, "x", (word, (), (0,), (), "x")), word == "grows")
        self.assertIs(is_height_paper(program, 1, "x", ("bounded",) + bounded), True)

    def test_terms_that_the_run_does_not_pass(self):
        program = make_program(("x",), (0, (("x", ("f", ("f", ("a",)))),), 1), (0, (("x", ("a",)),), 1))
        self.assertIs(is_height_paper(program, 1, "x", ("bounded", {(1, "x"): 0}, (1,))), False)
        self.assertIs(is_height_paper(program, 1, "x", ("bounded", {(1, "x"): 2}, (1,))), False)
        self.assertIs(is_height_paper(program, 1, "x", ("bounded", {(1, "x"): 2}, (0,))), True)

    def test_exactly_one_kind(self):
        for seed in range(60):
            program = random_program(seed, points=3, edges=5)
            for name in NAMES:
                paper = height_paper(program, 1, name)
                others = [height_paper(other, point, one) for other in (program, LOOP, AROUND) for point in range(2) for one in other[0]]
                for value in others:
                    if is_height_paper(program, 1, name, value):
                        self.assertEqual(value[0], paper[0])


class ErrorsTest(unittest.TestCase):
    def calls(self, program, point, name, entry):
        return (lambda: height_paper(program, point, name, entry=entry), lambda: greatest_height(program, point, name, entry=entry),
                lambda: is_height_paper(program, point, name, None, entry=entry))

    def test_errors(self):
        for value in STRANGE + WRONG_PROGRAMS:
            for call in self.calls(value, None, None, 0) + (lambda: heights(value, entry=0),):
                with self.assertRaises(InvalidProgram):
                    call()
        for value in STRANGE + (2, -1, "0", (0,)):
            if value == 0 and value is not False:
                continue
            for call in self.calls(LOOP, value, None, 0):
                with self.assertRaises(InvalidNumber) as caught:
                    call()
                self.assertIs(caught.exception.value, value)
        for value in WRONG_NAMES:
            for call in self.calls(LOOP, 1, value, 0):
                with self.assertRaises(UnknownName) as caught:
                    call()
                self.assertIs(caught.exception.name, value)
        for value in STRANGE + (Pattern(x=1), Pattern(x=1, y=2, z=3)):
            if value is not None:
                for call in self.calls(LOOP, 1, "x", value) + (lambda: heights(LOOP, entry=value),):
                    with self.assertRaises(InvalidPattern):
                        call()

    def test_results_that_the_caller_changes(self):
        found = heights(FORK)
        found[1].clear()
        found.clear()
        self.assertEqual(len(heights(FORK)[1]), 3)
        paper = height_paper(FORK, 1, "y")
        paper[1].clear()
        self.assertEqual(height_paper(FORK, 1, "y")[1], {(0, "y"): 0, (0, "z"): 0, (1, "y"): 0})

    def test_defined_there(self):
        for name in ("height_after", "size_after", "height_paper", "is_height_paper", "greatest_height", "heights"):
            self.assertEqual(getattr(module, name).__module__, "termpaths.bounds.heights")


if __name__ == "__main__":
    unittest.main()
