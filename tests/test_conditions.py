"""[5.1], [11.1] to [11.5], stage 11: weakest conditions."""

import itertools
import unittest

from tests.hand import (
    FORK, LOOP, NAMES, TURN, all_runs, form, pattern, random_action, random_program, valued, values_after,
)
from tests.reference import (
    STRANGE, deep, different, holed, instance_values, numbered, powers, random_term, random_values, rng, shared_form, stepped,
    tall, unified,
)
from tests.test_failing import TEN, shifted
from tests.test_programs import WRONG_PROGRAMS
from termpaths.base.terms import is_term
from termpaths.conditions import conditions as module
from termpaths.conditions.conditions import (
    before, condition_paper, condition_paper_of, condition_rounds, condition_rounds_of, condition_table, condition_table_of,
    forced, forced_of, is_condition_paper, weakest, weakest_of,
)
from termpaths.errors import InvalidNumber, InvalidPattern, InvalidProgram, InvalidRun, InvalidTerm, TooLarge
from termpaths.patterns.patterns import Pattern
from termpaths.programs.programs import make_program, program_from, renamed_program, renumbered
from termpaths.questions.equalities import holds
from termpaths.tables.tables import is_closed

XY = Pattern.free("x", "y")
XYZ = Pattern.free(*NAMES)
STEP = (("x", ("s", "x")),)
WRONG_EQUALITIES = (
    None, [], {}, "x", (None,), (("x",),), (("x", "y", "z"),), (["x", "y"],), (("x", "v"),), (("x", 1),), (("x", ("f", 1)),),
    (("x", "x"), None), (("x", "x"), ("x", "v")), ("x", "y"), ((("f",), "X"),), ((True, "x"),), [("x", "y")], (Pattern(x=1),),
)


def solution_by_hand(names, pairs):
    """Return the values of the most general solution of pairs of terms over names and integers, or None.

    The integers are values that were read: they are equal to nothing else, and no name's value has one.
    """
    def rigid(term):
        if isinstance(term, tuple):
            return (term[0],) + tuple(rigid(inner) for inner in term[1:])
        return (f"read {term}",) if isinstance(term, int) else term

    put = unified([(rigid(e), rigid(f)) for e, f in pairs])
    if put is None:
        return None
    values = {name: deep(name, put) for name in names}
    return None if "read" in str(values) else holed(values)


def forced_by_hand(program, runs, equalities):
    """Return the values that some runs force, or None."""
    pairs = []
    for number, run in enumerate(runs):
        found = values_after(program, run, {name: name for name in program[0]})
        # Each run reads values of its own.
        found = {name: shifted_reads(found[name], 1000000 * number) for name in found}
        pairs.extend((valued(e, found), valued(f, found)) for e, f in equalities)
    return solution_by_hand(program[0], pairs)


def shifted_reads(term, by):
    if isinstance(term, tuple):
        return (term[0],) + tuple(shifted_reads(inner, by) for inner in term[1:])
    return term + by if isinstance(term, int) else term


def result(p):
    return None if p is None else form(p)


def hand_result(values):
    return None if values is None else shared_form(values)


def random_equalities(one, names, many):
    return tuple((random_term(one, names, one.randrange(2)), random_term(one, names, one.randrange(3))) for _ in range(many))


class BeforeTest(unittest.TestCase):
    def test_written(self):
        self.assertEqual(before(Pattern(x=1, y=("f", 1)), (("y", ("f", "x")),)), XY)
        self.assertIs(before(Pattern(x=1, y=1), (("x", 1),)), None)

    def test_ordinary(self):
        self.assertEqual(before(Pattern(x=1, y=1), ()), Pattern(x=1, y=1))
        self.assertEqual(before(Pattern(x=1, y=1), (("x", "y"),)), XY)
        self.assertEqual(before(Pattern(x=1, y=2, z=1), (("x", "y"),)), Pattern(x=1, y=2, z=2))
        self.assertEqual(before(Pattern(x=("f", 1), y=2), (("x", "y"), ("y", "x"))), Pattern(x=1, y=("f", 2)))
        self.assertEqual(before(Pattern(x=("f", 1), y=1), (("x", ("f", "y")), ("y", "x"))), Pattern(x=1, y=1))
        self.assertEqual(before(Pattern(x=("f", ("a",)), y=1), (("x", ("f", "y")),)), Pattern(x=1, y=("a",)))
        self.assertIs(before(Pattern(x=("f", ("a",)), y=1), (("x", ("g", "y")),)), None)
        self.assertIs(before(Pattern(x=("f", ("a",)), y=1), (("x", ("f", "y", "y")),)), None)
        # The values that the action forgets may be anything.
        self.assertEqual(before(Pattern(x=("a",), y=1), (("x", ("a",)),)), XY)
        self.assertEqual(before(Pattern(x=("a",), y=("b",)), (("x", ("a",)),)), Pattern(x=1, y=("b",)))

    def test_terms_within_themselves(self):
        self.assertIs(before(Pattern(x=1, y=1), (("x", ("f", "y")),)), None)
        self.assertIs(before(Pattern(x=1, y=("f", 1)), (("x", ("f", "x")), ("y", "x"))), None)
        self.assertEqual(before(Pattern(x=1, y=("f", 1)), (("x", ("f", "x")),)), Pattern(x=1, y=("f", ("f", 1))))

    def test_reads(self):
        self.assertEqual(before(XY, (("x", 1),)), XY)
        self.assertEqual(before(Pattern(x=1, y=1), (("x", 1), ("y", 1))), XY)
        self.assertIs(before(Pattern(x=1, y=1), (("x", 1), ("y", 2))), None)
        self.assertIs(before(Pattern(x=("a",), y=1), (("x", 1),)), None)
        self.assertIs(before(Pattern(x=("f", 1), y=1), (("x", ("f", 3)),)), None)
        self.assertEqual(before(Pattern(x=("f", 1), y=2), (("x", ("f", 3)),)), XY)
        self.assertEqual(before(Pattern(x=("f", 1, 2), y=1), (("x", ("f", "y", 3)),)), Pattern(x=1, y=2))
        self.assertIs(before(Pattern(x=("f", 1, 1), y=2), (("x", ("f", "y", 3)),)), None)
        self.assertIs(before(Pattern(x=1, y=("g", 1)), (("x", 7),)), None)
        self.assertIs(before(Pattern(x=1, y=("g", 1, 2)), (("x", 7),)), None)
        self.assertEqual(before(Pattern(x=1, y=("g", 1)), (("x", 7), ("y", ("g", 7)))), XY)
        self.assertIs(before(Pattern(x=1, y=("g", 1)), (("x", 7), ("y", ("g", 8)))), None)
        # The same value twice, once by a hole that stands for it at two places.
        self.assertEqual(before(Pattern(x=("f", 1, 1), y=2), (("x", ("f", 3, 3)),)), XY)
        self.assertIs(before(Pattern(x=("f", 1, 1), y=2), (("x", ("f", 3, 4)),)), None)

    def test_random(self):
        none = 0
        for seed in range(400):
            one = rng(seed)
            p = pattern(random_values(one, NAMES, 3, 2))
            action = random_action(one, NAMES, 2)
            found = before(p, action)
            values = values_after(make_program(NAMES, (0, action, 0)), (0,), {name: name for name in NAMES})
            wanted = {name: renamed_holes(p[name]) for name in NAMES}
            expected = solution_by_hand(NAMES, [(values[name], wanted[name]) for name in NAMES])
            self.assertEqual(result(found), hand_result(expected))
            none += found is None
            if found is None:
                continue
            self.assertLessEqual(found.after(action), p)
            # Any pattern of which the action makes an instance is an instance of what was found, and the other way.
            other = numbered(instance_values(one, expected, 2, 1)) if seed % 2 else numbered(random_values(one, NAMES, 2, 1))
            if all(is_term(value) for value in other.values()):
                other = Pattern(**other)
                self.assertIs(other.after(action) <= p, other <= found)
        self.assertTrue(50 < none < 350)

    def test_weights(self):
        self.assertEqual(before(powers(x=499), STEP).weight, 499)
        great = Pattern(y=1).beside(powers(x=498))
        self.assertEqual(before(great, (("x", "y"), ("y", "x"))).weight, 500)
        # The hole of x is seven signs greater before the action.
        deeper = (("y", tall(7, "y")),)
        self.assertEqual(form(before(powers(x=492, y=0), deeper)), form(powers(x=499, y=0)))
        with self.assertRaises(TooLarge) as caught:
            before(powers(x=493, y=0), deeper)
        self.assertEqual(caught.exception.limit, 500)
        self.assertIs(before(powers(x=493, y=0).beside(Pattern(z=("a",))).after(()), (("y", tall(7, "y")), ("z", ("b",)))), None)

    def test_great_values(self):
        double = stepped(Pattern(x=1, y=2), (("x", ("d", "x", "x")),), 80)
        found = before(double, (("x", ("d", "x", "y")),))
        self.assertEqual(form(found), form(stepped(Pattern(x=1, y=1), (("x", ("d", "x", "x")), ("y", ("d", "y", "y"))), 79)))

    def test_errors(self):
        for value in STRANGE:
            if not isinstance(value, Pattern):
                with self.assertRaises(InvalidPattern):
                    before(value, None)
            if value not in ((), (("x", "y"),)):
                with self.assertRaises(InvalidTerm):
                    before(XY, value)
        for value in ((("z", "x"),), (("y", "x"), ("x", "y")), (("x", "z"),), (("x", 0),), [("x", "y")]):
            with self.assertRaises(InvalidTerm):
                before(XY, value)


def renamed_holes(term):
    """Return a term with other leaves for its holes, which can be put for."""
    if isinstance(term, tuple):
        return (term[0],) + tuple(renamed_holes(inner) for inner in term[1:])
    return f"hole {term}"


class WeakestTest(unittest.TestCase):
    def test_written(self):
        self.assertEqual(weakest(FORK, 1, ("x", ("f", "z"))), Pattern(x=1, y=2, z=2))
        self.assertIs(weakest(LOOP, 1, ("x", "y")), None)
        self.assertEqual(len(list(condition_rounds(FORK, 1, ("y", "z")))), 2)
        self.assertEqual(weakest(FORK, 1, ("x", ("f", "y"))), XYZ)
        self.assertEqual(weakest(LOOP, 1, ("y", ("f", "x"))), XY)
        self.assertIs(weakest(LOOP, 1, ("x", ("a",))), None)
        self.assertEqual(weakest(TURN, 1, ("x", "y")), Pattern(x=1, y=1, z=1))

    def test_points_that_no_run_reaches(self):
        program = make_program(("x", "y"), (1, (), 2), (0, (), 0), size=4)
        for point in (1, 2, 3):
            self.assertEqual(weakest(program, point, ("x", "y"), (("a",), ("b",))), XY)
            self.assertEqual(condition_paper(program, point, (("a",), ("b",)))[0], "condition")
        self.assertEqual(condition_table(program, 2, ("x", "y")), {0: XY, 1: Pattern(x=1, y=1), 2: Pattern(x=1, y=1), 3: XY})
        self.assertEqual(condition_table(program, 2, ("x", ("f", "x"))), {0: XY, 3: XY})

    def test_no_equalities(self):
        self.assertEqual(weakest(LOOP, 1), XY)
        self.assertEqual(condition_table(LOOP, 1), {0: XY, 1: XY})
        self.assertEqual(list(condition_rounds(LOOP, 1)), [{0: XY, 1: XY}])
        self.assertEqual(condition_paper(LOOP, 1), ("condition", {0: XY, 1: XY}, ()))

    def test_several(self):
        program = make_program(NAMES, (0, (("x", ("f", "x")),), 1), (0, (("y", "z"),), 1))
        self.assertEqual(weakest(program, 1, ("x", ("f", "y"))), Pattern(x=("f", 1), y=("f", 1), z=1))
        self.assertIs(weakest(program, 1, ("x", ("f", "y")), ("y", "z")), None)
        self.assertEqual(weakest(program, 1, ("y", ("g", "z")), ("z", ("a",))), None)
        straight = make_program(NAMES, (0, (("x", ("f", "y")),), 1))
        self.assertEqual(weakest(straight, 1, ("x", ("f", "z")), ("z", ("a",))), Pattern(x=1, y=("a",), z=("a",)))
        self.assertIs(weakest(straight, 1, ("x", ("f", "z")), ("z", ("a",)), ("y", ("b",))), None)
        # An equality that has no solution at the entry may hold at another point.
        self.assertEqual(weakest(make_program(("x",), (0, (("x", ("a",)),), 1)), 1, ("x", ("a",))), Pattern(x=1))
        self.assertIs(weakest(make_program(("x",), (0, (), 1)), 1, ("x", ("f", "x"))), None)

    def test_entry(self):
        self.assertEqual(weakest(LOOP, 0, ("x", ("f", "y"))), Pattern(x=("f", 1), y=1))
        self.assertEqual(condition_table(LOOP, 0, ("x", ("f", "y"))), {0: Pattern(x=("f", 1), y=1), 1: XY})
        loop = make_program(("x", "y"), (0, (("x", ("f", "x")), ("y", ("f", "y"))), 0))
        self.assertEqual(weakest(loop, 0, ("x", "y")), Pattern(x=1, y=1))
        self.assertIs(weakest(loop, 0, ("x", ("a",))), None)

    def test_reads(self):
        program = make_program(("x", "y"), (0, (("x", 1),), 1), (1, (("y", "x"),), 2), (1, (), 2))
        self.assertIs(weakest(program, 2, ("x", "y")), None)
        self.assertEqual(weakest(make_program(("x", "y"), *program[2][:2]), 2, ("x", "y")), XY)
        self.assertEqual(condition_table(program, 2, ("x", "y")), {1: Pattern(x=1, y=1), 2: Pattern(x=1, y=1)})
        twice = make_program(("x", "y"), (0, (("x", 1),), 1), (1, (("y", 1),), 2))
        self.assertIs(weakest(twice, 2, ("x", "y")), None)
        ring = make_program(("x", "y"), (0, (("y", "x"), ("x", 1))[::-1], 0))
        self.assertIs(weakest(ring, 0, ("x", "y")), None)

    def test_each_round(self):
        shown = {"none": 0, "some": 0}
        for seed in range(250):
            program = random_program(seed, points=3, edges=4)
            one = rng(seed)
            equalities = random_equalities(one, NAMES, 1 + seed % 2)
            point = seed % 3
            found = list(condition_rounds_of(program, point, equalities))
            self.assertEqual(found, list(condition_rounds(program, point, *equalities)))
            for start in range(3):
                # The paths from another point are the runs of a program in which it changes places with the entry.
                moved = {0: start, start: 0}
                other = make_program(NAMES, *[(moved.get(a, a), action, moved.get(b, b)) for a, action, b in program[2]], size=3)
                runs = all_runs(other, 4)
                for k in range(5):
                    to = [run for run, end in runs if end == moved.get(point, point) and len(run) <= k]
                    expected = forced_by_hand(other, to, equalities)
                    table = found[min(k, len(found) - 1)]
                    self.assertEqual(result(table.get(start)), hand_result(expected))
            last = found[-1]
            self.assertEqual(condition_table_of(program, point, equalities), last)
            self.assertEqual(condition_table(program, point, *equalities), last)
            self.assertEqual(weakest(program, point, *equalities), last.get(0))
            self.assertEqual(weakest_of(program, point, equalities), last.get(0))
            for table in found:
                self.assertEqual(list(table), sorted(table))
            shown["some" if 0 in last else "none"] += 1
            if 0 in last:
                self.assertIs(is_closed(program, last, entry=last[0]), True)
        self.assertGreater(min(shown.values()), 40)

    def test_rounds_one_by_one(self):
        # x must be one of two names after a row of points; each round goes one point further back.
        program = make_program(("x", "y"), *[(k, (("x", "y"), ("y", "x")), k + 1) for k in range(5)], (2, (), 3))
        found = list(condition_rounds(program, 5, ("x", ("a",))))
        self.assertEqual(len(found), 6)
        a, b = Pattern(x=("a",), y=1), Pattern(x=1, y=("a",))
        both = Pattern(x=("a",), y=("a",))
        self.assertEqual(found[0], {0: XY, 1: XY, 2: XY, 3: XY, 4: XY, 5: a})
        self.assertEqual(found[2], {0: XY, 1: XY, 2: XY, 3: a, 4: b, 5: a})
        self.assertEqual(found[5], {0: both, 1: both, 2: both, 3: a, 4: b, 5: a})
        generator = condition_rounds(program, 5, ("x", ("a",)))
        self.assertEqual([next(generator), next(generator)], found[:2])

    def test_rounds_that_end(self):
        turn = program_from(TEN, ((0, shifted(TEN), 0), (0, (), 1)))
        found = list(condition_rounds(turn, 1, ("a", "b")))
        # Each round makes one name more equal, up to the last of nine equalities.
        self.assertEqual([one[0].holes for one in found], [10, 9, 8, 7, 6, 5, 4, 3, 2, 1])
        self.assertEqual(weakest(turn, 1, ("a", "b")), Pattern.of({name: 1 for name in TEN}))

    def test_instances_and_no_others(self):
        answers = {True: 0, False: 0}
        for seed in range(250):
            program = random_program(seed, names=("x", "y"), points=3, edges=4)
            one = rng(seed)
            equalities = random_equalities(one, ("x", "y"), 1)
            found = weakest_of(program, 1, equalities)
            entries = [numbered(random_values(one, ("x", "y"), 2, 1)) for _ in range(3)]
            if found is not None:
                try:
                    entries.append(numbered(instance_values(one, {name: found[name] for name in ("x", "y")}, 2, 1)))
                except TooLarge:
                    pass
            for values in entries:
                if not all(is_term(value) for value in values.values()):
                    continue
                entry = Pattern(**values)
                held = all(holds(program, 1, e, f, entry=entry) for e, f in equalities)
                self.assertIs(held, found is not None and entry <= found)
                answers[held] += 1
        self.assertGreater(min(answers.values()), 100)

    def test_renamed_and_renumbered(self):
        other = {"x": "y", "y": "v", "z": "aa"}
        for seed in range(60):
            program = random_program(seed, points=4, edges=5)
            one = rng(seed)
            equalities = random_equalities(one, NAMES, 1)
            found = weakest_of(program, 3, equalities)
            renamed = weakest_of(renamed_program(program, **other), 3, tuple((valued(e, other), valued(f, other)) for e, f in equalities))
            self.assertEqual(renamed, None if found is None else found.renamed(**other))
            self.assertEqual(weakest_of(renumbered(program, (0, 2, 3, 1)), 1, equalities), found)

    def test_results_that_the_caller_changes(self):
        kept = []
        for one in condition_rounds(FORK, 1, ("y", "z")):
            kept.append(dict(one))
            one.clear()
            one[0] = None
        self.assertEqual(kept, list(condition_rounds(FORK, 1, ("y", "z"))))
        found = condition_table(FORK, 1, ("y", "z"))
        found.clear()
        self.assertEqual(len(condition_table(FORK, 1, ("y", "z"))), 2)

    def test_many_points(self):
        swap, copy = (("x", "y"), ("y", "x")), (("z", ("f", "z")),)
        edges = tuple((k, swap, k + 1) for k in range(59)) + tuple((k, copy, k + 1) for k in range(59))
        program = program_from(NAMES, edges)
        self.assertEqual(weakest(program, 59, ("x", "y")), Pattern(x=1, y=1, z=2))
        self.assertIs(weakest(program, 59, ("x", "z")), None)
        self.assertEqual(len(list(condition_rounds(program, 59, ("x", "y")))), 60)


def grows(many, last):
    """Return a program in which w and x become seven signs greater along each edge, and then a few more."""
    edges = [(k, (("w", tall(7, "w")), ("x", tall(7, "x"))), k + 1) for k in range(many)]
    return make_program(("w", "x", "y", "z"), (0, (("w", tall(4, "w")), ("x", tall(last, "x"))), 1),
                        *[(first + 1, action, second + 1) for first, action, second in edges])


class WeightTest(unittest.TestCase):
    EQUALITIES = (("y", "x"), ("z", "w"))

    def test_limit(self):
        program = grows(35, 4)
        self.assertEqual(weakest_of(program, 36, self.EQUALITIES).weight, 500)
        self.assertEqual(len(list(condition_rounds_of(program, 36, self.EQUALITIES))), 37)
        self.assertEqual(condition_paper_of(program, 36, self.EQUALITIES)[1][0].weight, 500)
        program = grows(35, 5)
        for call in (weakest, condition_table, condition_paper):
            with self.assertRaises(TooLarge) as caught:
                call(program, 36, *self.EQUALITIES)
            self.assertEqual(caught.exception.limit, 500)
        for call in (weakest_of, condition_table_of, condition_paper_of):
            with self.assertRaises(TooLarge):
                call(program, 36, self.EQUALITIES)
        self.assertIs(weakest(program, 36, *self.EQUALITIES, ("x", "w"), ("x", ("a",))), None)

    def test_round_by_round(self):
        for call in (lambda: condition_rounds(grows(35, 5), 36, *self.EQUALITIES),
                     lambda: condition_rounds_of(grows(35, 5), 36, self.EQUALITIES)):
            rounds = call()
            for k in range(36):
                self.assertEqual(next(rounds)[36 - k].weight, 14 * k + 2)
            with self.assertRaises(TooLarge) as caught:
                next(rounds)
            self.assertEqual(caught.exception.limit, 500)

    def test_points_that_no_run_reaches(self):
        names, _, edges = grows(35, 5)
        moved = tuple((first + 1, action, second + 1) for first, action, second in edges)
        with self.assertRaises(TooLarge):
            weakest(program_from(names, moved), 37, *self.EQUALITIES)

    def test_the_solution_itself(self):
        # Ten names, nine of which are terms with 55 parts of their own.
        terms = {name: different(55, [100 * k]) for k, name in enumerate(TEN[:9])}
        program = make_program(TEN, size=2)
        equalities = tuple((name, terms[name]) for name in TEN[:9])
        self.assertEqual(weakest_of(program, 0, equalities).weight, 496)
        self.assertEqual(weakest_of(program, 0, equalities + (("j", different(4, [9000])),)).weight, 499)
        self.assertEqual(weakest_of(program, 0, equalities + (("j", different(5, [9000])),)).weight, 500)
        for point in (0, 1):
            with self.assertRaises(TooLarge):
                weakest_of(program, point, equalities + (("j", different(6, [9000])),))

    def test_what_is_found_on_the_way(self):
        # Along the first edges alone y and z are two great values; along the last one x and w are equal, so y and z share.
        names, size, edges = grows(35, 5)
        program = program_from(names, edges + ((0, (("y", "x"), ("z", "x")), 36),))
        found = weakest_of(program, 36, self.EQUALITIES)
        self.assertEqual(form(found), form(powers(w=0, x=0, y=250, z=249)))
        paper = condition_paper_of(program, 36, self.EQUALITIES)
        self.assertEqual(paper[1][0], found)
        self.assertIs(is_condition_paper(program, 36, self.EQUALITIES, paper), True)

    def test_forced(self):
        program = make_program(("x", "y"), (0, (("x", tall(7, "x")),), 0))
        self.assertEqual(form(forced(program, ((0,) * 71,), ("x", "y"))), form(powers(x=0, y=497)))
        for call in (lambda: forced(program, ((0,) * 72,), ("x", "y")), lambda: forced_of(program, ((0,) * 72,), (("x", "y"),))):
            with self.assertRaises(TooLarge) as caught:
                call()
            self.assertEqual(caught.exception.limit, 500)
        self.assertIs(forced(program, ((0,) * 72, (0,)), ("x", "y")), None)
        self.assertIs(forced(program, ((0,) * 200, (0,) * 199), ("x", "y")), None)

    def test_judged(self):
        program = make_program(("x", "y"), (0, (("x", tall(7, "x")),), 0))
        equalities = (("x", "y"),)
        long = (0,) * 30000
        for value in (("none", ((0,) * 72,)), ("none", (long,)), ("condition", {0: XY}, ((0,) * 72,)),
                      ("condition", {0: powers(x=0, y=499)}, (long,))):
            self.assertIs(is_condition_paper(program, 0, equalities, value), False)
        self.assertIs(is_condition_paper(program, 0, equalities, ("none", ((), long))), True)


class ForcedTest(unittest.TestCase):
    def test_ordinary(self):
        self.assertEqual(forced(FORK, ((0,),), ("x", ("f", "z"))), XYZ)
        self.assertEqual(forced(FORK, ((1,),), ("x", ("f", "z"))), Pattern(x=1, y=2, z=2))
        self.assertEqual(forced(FORK, ((0,), (1,)), ("x", ("f", "z"))), Pattern(x=1, y=2, z=2))
        self.assertEqual(forced(FORK, (), ("x", ("f", "x"))), XYZ)
        self.assertEqual(forced(FORK, ((0,), (1,), ())), XYZ)
        self.assertEqual(forced_of(FORK, ((1,),), (("x", ("f", "z")), ("z", ("a",)))), Pattern(x=1, y=("a",), z=("a",)))
        # The runs may lead to different points.
        self.assertEqual(forced(FORK, ((), (1,)), ("x", "z")), Pattern(x=("f", 1), y=1, z=("f", 1)))
        self.assertIs(forced(FORK, ((), (0,)), ("x", "z")), None)
        self.assertEqual(forced(LOOP, ((), (0,)), ("y", ("f", "x"))), Pattern(x=1, y=("f", 1)))

    def test_only_together(self):
        program = make_program(NAMES, (0, (("x", "x"), ("y", ("f", "y"))), 1), (0, (("x", "y"), ("y", ("f", "z"))), 1),
                               (0, (("x", "z"), ("y", ("f", "x"))), 1))
        # The runs say x = f(y), y = f(z) and z = f(x); each two of them go together, all three do not.
        for several in itertools.combinations(range(3), 2):
            self.assertEqual(forced(program, tuple((k,) for k in several), ("x", "y")).holes, 1)
        self.assertIs(forced(program, ((0,), (1,), (2,)), ("x", "y")), None)
        self.assertIs(weakest(program, 1, ("x", "y")), None)
        paper = condition_paper(program, 1, ("x", "y"))
        self.assertEqual(paper, ("none", ((0,), (1,), (2,))))
        for order in itertools.permutations(paper[1]):
            self.assertIs(is_condition_paper(program, 1, (("x", "y"),), ("none", order)), True)
        for k in range(3):
            self.assertIs(is_condition_paper(program, 1, (("x", "y"),), ("none", paper[1][:k] + paper[1][k + 1:])), False)

    def test_reads(self):
        program = make_program(("x", "y"), (0, (("x", 1),), 1), (1, (("y", "x"),), 1), (0, (("x", ("f", 1, "y")),), 1))
        self.assertEqual(forced(program, ((0, 1),), ("x", "y")), XY)
        self.assertIs(forced(program, ((0,),), ("x", "y")), None)
        self.assertIs(forced(program, ((2,),), ("x", ("f", "y", "y"))), None)
        self.assertEqual(forced(program, ((2, 1),), ("x", "y")), XY)

    def test_random(self):
        for seed in range(200):
            program = random_program(seed, points=3, edges=4)
            one = rng(seed)
            runs = [run for run, _ in all_runs(program, 3)]
            chosen = tuple(one.choice(runs) for _ in range(one.randrange(4)))
            equalities = random_equalities(one, NAMES, 1 + seed % 2)
            expected = forced_by_hand(program, chosen, equalities)
            found = forced_of(program, chosen, equalities)
            self.assertEqual(result(found), hand_result(expected))
            self.assertEqual(forced(program, chosen, *equalities), found)
            self.assertEqual(forced_of(program, chosen[::-1] + chosen, equalities), found)


class PaperTest(unittest.TestCase):
    def test_random(self):
        kinds = {"condition": 0, "none": 0}
        many = set()
        for seed in range(250):
            program = random_program(seed, points=3, edges=5)
            one = rng(seed)
            equalities = random_equalities(one, NAMES, 1 + seed % 2)
            paper = condition_paper_of(program, 1, equalities)
            self.assertEqual(paper, condition_paper(program, 1, *equalities))
            self.assertIs(is_condition_paper(program, 1, equalities, paper), True)
            found = weakest_of(program, 1, equalities)
            kinds[paper[0]] += 1
            runs = paper[-1]
            many.add(len(runs))
            if paper[0] == "none":
                self.assertIs(found, None)
                self.assertLessEqual(len(runs), 4)
                self.assertIs(is_condition_paper(program, 1, equalities, ("condition", condition_table_of(program, 1, equalities), runs)), False)
            else:
                self.assertEqual(paper[1], condition_table_of(program, 1, equalities))
                self.assertEqual(paper[1][0], found)
                self.assertLessEqual(len(runs), 3)
                self.assertIs(is_condition_paper(program, 1, equalities, ("none", runs)), False)
                other = tuple(one.choice([run for run, end in all_runs(program, 4) if end == 1] or [()]) for _ in range(2))
                right = forced_of(program, other, equalities) == found and all(run in [r for r, e in all_runs(program, 4) if e == 1] for run in other)
                self.assertIs(is_condition_paper(program, 1, equalities, ("condition", paper[1], other)), right)
        self.assertGreater(min(kinds.values()), 20)
        self.assertGreaterEqual(len(many), 3)

    def test_orders_and_numbers_of_runs(self):
        # x, y and z must be equal, each two of them by a run of its own.
        program = make_program(NAMES, (0, (("x", "y"), ("y", "z")), 1), (0, (), 1), (0, (("x", "z"), ("y", "x")), 1))
        equalities = (("x", "y"),)
        table = condition_table_of(program, 1, equalities)
        same = Pattern(x=1, y=1, z=1)
        self.assertEqual(table, {0: same, 1: Pattern(x=1, y=1, z=2)})
        judged = {(): False, ((0,),): False, ((0,), (1,)): True, ((1,), (0,)): True, ((2,), (1,)): True, ((0,), (1,), (2,)): True,
                  ((0,), (0,), (1,)): True, ((0,), (0,), (0,)): False, ((0,), (1,), (2,), (0,)): False, ((0,), ()): False,
                  ((0,), (1,), ()): False, ((0,), (3,)): False}
        for runs, right in judged.items():
            self.assertIs(is_condition_paper(program, 1, equalities, ("condition", table, runs)), right)
        self.assertIs(is_condition_paper(program, 1, equalities, ("condition", table, [(0,), (1,)])), False)
        self.assertIs(is_condition_paper(program, 1, equalities, ("condition", table, ((0,), [1]))), False)

    def test_tables_otherwise(self):
        program = make_program(NAMES, (0, (("x", "y"), ("y", "z")), 1), (0, (), 1), (2, (), 1), size=4)
        equalities = (("x", "y"),)
        same, two = Pattern(x=1, y=1, z=1), Pattern(x=1, y=1, z=2)
        runs = ((0,), (1,))
        for table, right in (
            ({0: same, 1: two}, True), ({0: same, 1: two, 2: two, 3: XYZ}, True), ({1: two, 0: same}, True), ({0: same, 1: same}, True),
            ({0: same, 1: same, 2: same}, True), ({0: same, 1: same, 2: two}, False), ({0: same}, False), ({1: two}, False), ({}, False),
            ({0: two, 1: two}, False), ({0: same, 1: XYZ}, False), ({0: same, 1: Pattern(x=1, y=1)}, False),
            ({0: Pattern(x=("a",), y=("a",), z=("a",)), 1: two}, False), ({0: same, 1: two, 4: two}, False),
            ({0: same, True: two}, False), (None, False), ([same, two], False), ({0: None, 1: two}, False),
        ):
            self.assertIs(is_condition_paper(program, 1, equalities, ("condition", table, runs)), right)
        special = make_program(NAMES, (0, (("x", ("f", "y")),), 1))
        paper = ("condition", {0: Pattern(x=1, y=("a",), z=2), 1: Pattern(x=("f", ("a",)), y=("a",), z=1)}, ((0,),))
        self.assertIs(is_condition_paper(special, 1, (("y", ("a",)),), paper), True)
        self.assertIs(is_condition_paper(special, 1, (("y", ("b",)),), paper), False)
        self.assertIs(is_condition_paper(special, 1, (("y", ("a",)), ("z", ("a",))), paper), False)

    def test_points_outside_of_the_table(self):
        program = make_program(("x",), (1, (), 2), size=3)
        bad = ((("a",), ("b",)),)
        self.assertIs(is_condition_paper(program, 2, bad, ("condition", {0: Pattern(x=1)}, ())), True)
        self.assertIs(is_condition_paper(program, 2, bad, ("condition", {0: Pattern(x=1), 2: Pattern(x=1)}, ())), False)
        self.assertIs(is_condition_paper(program, 2, bad, ("condition", {0: Pattern(x=1), 1: Pattern(x=1)}, ())), False)
        self.assertIs(is_condition_paper(program, 2, bad, ("condition", {0: Pattern(x=("a",))}, ())), False)
        self.assertIs(is_condition_paper(program, 2, bad, ("none", ())), False)

    def test_none(self):
        value = condition_paper(LOOP, 1, ("x", "y"))
        self.assertEqual(value, ("none", ((0,),)))
        self.assertIs(is_condition_paper(FORK, 1, (("x", "z"),), ("none", ((0,),))), True)
        for runs, right in ((((0,),), True), (((0, 1),), True), (((0,), (0, 1)), True), (((0,),) * 3, True), (((0,),) * 4, False), ((), False),
                            (((),), False), ((0,), False), ([(0,)], False), (((0,), (1,)), False), (((0,), ()), False), (((0, True),), False),
                            (((0,) + (1,) * 50000,), True)):
            self.assertIs(is_condition_paper(LOOP, 1, (("x", "y"),), ("none", runs)), right, runs[:3])
        self.assertIs(is_condition_paper(LOOP, 1, (("y", ("f", "x")),), ("none", ((0,),))), False)

    def test_as_many_runs_as_there_are_names(self):
        # Each run makes one name equal to a constant of its own.
        edges = tuple((0, (("a", name),) if name != "a" else (), 1) for name in TEN)
        equality = ("a", ("k",))
        program = program_from(TEN, edges)
        paper = condition_paper(program, 1, equality)
        self.assertEqual(paper[1][0], Pattern.of({name: ("k",) for name in TEN}))
        self.assertEqual(paper[2], tuple((k,) for k in range(10)))
        self.assertIs(is_condition_paper(program, 1, (equality,), paper), True)
        self.assertIs(is_condition_paper(program, 1, (equality,), paper[:2] + (paper[2] + ((0,),),)), False)
        none = program_from(TEN, edges + ((0, (("a", ("l", "a")),), 1),))
        self.assertIs(weakest(none, 1, equality), None)
        self.assertIs(is_condition_paper(none, 1, (equality,), condition_paper(none, 1, equality)), True)
        self.assertIs(is_condition_paper(none, 1, (equality,), ("none", tuple((k,) for k in range(11)))), True)
        self.assertIs(is_condition_paper(none, 1, (equality,), ("none", tuple((k,) for k in range(11)) + ((10,),))), False)

    def test_long_runs(self):
        turn = program_from(TEN, ((0, shifted(TEN), 0), (0, (), 1)))
        paper = condition_paper(turn, 1, ("a", "b"))
        self.assertEqual(paper[2], tuple((0,) * k + (1,) for k in range(9)))
        self.assertIs(is_condition_paper(turn, 1, (("a", "b"),), paper), True)
        long = tuple((0,) * (10000 + k) + (1,) for k in range(9))
        self.assertIs(is_condition_paper(turn, 1, (("a", "b"),), paper[:2] + (long,)), True)
        self.assertIs(is_condition_paper(turn, 1, (("a", "b"),), paper[:2] + (long[:8] + long[:1],)), False)

    def test_other_values(self):
        for value in STRANGE + (("none",), ("condition",), ("none", (), ()), ("condition", {0: XY, 1: XY}), ("condition", {0: XY, 1: XY}, (), ()),
                                ["none", ()], ("None", ()), ("condition", {0: XY, 1: XY}, None), ("none", None), ({}, ())):
            self.assertIs(is_condition_paper(LOOP, 1, (("y", ("f", "x")),), value), False)
            self.assertIs(is_condition_paper(LOOP, 1, (("x", "y"),), value), False)
        right = ("condition", {0: XY, 1: Pattern(x=1, y=("f", 1))}, ())
        self.assertIs(is_condition_paper(LOOP, 1, (("y", ("f", "x")),), right), True)
        for word in ("none", "Condition", "", None, 0, ("condition",)):
            self.assertIs(is_condition_paper(LOOP, 1, (("y", ("f", "x")),), (word,) + right[1:]), False)
            self.assertIs(is_condition_paper(LOOP, 1, (("x", "y"),), (word, ((0,),), ((0,),))), False)
            self.assertIs(is_condition_paper(LOOP, 1, (("x", "y"),), (word, {}, ((0,),))), False)
            self.assertIs(is_condition_paper(LOOP, 1, (("x", "y"),), (word, ((0,),))), word == "none")
            self.assertIs(is_condition_paper(LOOP, 1, (("x", "y"),), (word,)), False)


class ErrorsTest(unittest.TestCase):
    def calls(self, program, point, equalities):
        return (
            lambda: weakest_of(program, point, equalities), lambda: condition_table_of(program, point, equalities),
            lambda: next(condition_rounds_of(program, point, equalities)), lambda: condition_paper_of(program, point, equalities),
            lambda: is_condition_paper(program, point, equalities, None),
        )

    def starred(self, program, point, equalities):
        return (
            lambda: weakest(program, point, *equalities), lambda: condition_table(program, point, *equalities),
            lambda: next(condition_rounds(program, point, *equalities)), lambda: condition_paper(program, point, *equalities),
        )

    def test_programs_and_points(self):
        for value in STRANGE + WRONG_PROGRAMS:
            for call in self.calls(value, None, None) + self.starred(value, None, (1,)) + (
                    lambda: forced(value, None, 1), lambda: forced_of(value, None, None)):
                with self.assertRaises(InvalidProgram):
                    call()
        for value in STRANGE + (2, -1, "0", (0,)):
            if value == 0 and value is not False:
                continue
            for call in self.calls(LOOP, value, None) + self.starred(LOOP, value, (1,)):
                with self.assertRaises(InvalidNumber) as caught:
                    call()
                self.assertIs(caught.exception.value, value)

    def test_equalities(self):
        for value in WRONG_EQUALITIES:
            for call in self.calls(LOOP, 1, value) + (lambda: forced_of(LOOP, ((0,),), value),):
                with self.assertRaises(InvalidTerm):
                    call()
            if isinstance(value, tuple):
                for call in self.starred(LOOP, 1, value) + (lambda: forced(LOOP, ((0,),), *value),):
                    with self.assertRaises(InvalidTerm):
                        call()

    def test_runs(self):
        for value in STRANGE + (((0, 0),), ((1,),), [()], ((), [0]), ((0,) + (1,) * 200,), ((), None), ((0, True),), (0,), {(): ()}):
            if value in ((), ((), ())):
                continue
            for call in (lambda: forced(LOOP, value, 1), lambda: forced_of(LOOP, value, None)):
                with self.assertRaises(InvalidRun):
                    call()
        self.assertEqual(forced(LOOP, ((0,) + (1,) * 199,), ("y", ("f", "x"))), XY)

    def test_with_the_first_result(self):
        condition_rounds(None, None, None)
        condition_rounds_of(None, None, None)

    def test_defined_there(self):
        for name in ("before", "weakest", "condition_table", "condition_rounds", "weakest_of", "condition_table_of",
                     "condition_rounds_of", "forced", "forced_of", "condition_paper", "condition_paper_of", "is_condition_paper"):
            self.assertEqual(getattr(module, name).__module__, "termpaths.conditions.conditions")


if __name__ == "__main__":
    unittest.main()
