"""[0.15] to [0.17], [1.1], [2.2], [9.1], [9.2], stage 9: equalities and shapes."""

import itertools
import unittest

from tests.hand import (
    FORK, LOOP, NAMES, TURN, all_runs, fails_by_hand, misfits_by_hand, pattern, random_program, valued, values_after,
)
from tests.reference import STRANGE, numbered, powers, random_term, random_values, rng, stepped
from tests.test_failing import SAME, TEN, WRONG_TERMS, all_but, ring
from tests.test_programs import WRONG_PROGRAMS
from termpaths.bounds.heights import heights
from termpaths.conditions.conditions import weakest
from termpaths.base.terms import height_of, is_term, size_of, text_of
from termpaths.errors import (
    InvalidNumber, InvalidOperation, InvalidPattern, InvalidProgram, InvalidTerm, TooLarge,
)
from termpaths.patterns.patterns import Pattern
from termpaths.programs.programs import make_program, program_from, renamed_program, renumbered
from termpaths.programs.runs import end_of, state_after
from termpaths.questions import equalities as module
from termpaths.questions.equalities import (
    equal_names, equalities, equality_paper, fits, holds, is_equality_paper, is_shape_paper, shape_paper,
)
from termpaths.questions.failing import shortest_failing, shortest_misfit
from termpaths.tables.tables import is_closed, table

F = (("x", ("f", "z")),)
WRONG_PAPERS = STRANGE + (
    ("table",), ("run",), ("table", None), ("run", None), ("table", {}, ()), ("run", (), ()), ["run", ()], ("runs", ()),
    ("Table", {}), ("run", [0]), ("run", (9,)), ("table", []), (("run", ()),), {"run": ()}, ("table", {True: None}),
    ("run", (True,)), (None, ()), ("table", {0: None}), ("run", "x"), (Pattern(x=1), Pattern(x=1)), ("run", {}),
)


class HoldsTest(unittest.TestCase):
    def test_written(self):
        self.assertEqual([holds(LOOP, 1, "y", ("f", "x")), holds(FORK, 1, "x", ("f", "y")), holds(LOOP, 1, "x", ("a",))],
                         [True, True, False])
        self.assertEqual([fits(LOOP, 1, Pattern(y=("f", 1))), fits(LOOP, 1, Pattern(x=("f", 1)))], [True, False])

    def test_computed_on_both_branches(self):
        both = make_program(NAMES, (0, F, 1), (0, F, 2), (1, (), 3), (2, (), 3))
        self.assertIs(holds(both, 3, "x", ("f", "z")), True)
        one = make_program(NAMES, (0, F, 1), (0, (), 2), (1, (), 3), (2, (), 3))
        self.assertIs(holds(one, 3, "x", ("f", "z")), False)
        # It holds though no branch computes f(y): x is f(z) where y is z, and f(y) elsewhere.
        self.assertIs(holds(FORK, 1, "x", ("f", "y")), True)
        self.assertIs(holds(FORK, 1, "x", ("f", "z")), False)

    def test_two_names_that_go_on_together(self):
        program = make_program(("x", "y"), (0, (("x", 1), ("y", 1)), 1), (1, (("x", ("g", "x")), ("y", ("g", "y"))), 1),
                               (1, (("x", 1), ("y", 2)), 2), (1, (), 2))
        self.assertIs(holds(program, 1, "x", "y"), True)
        self.assertIs(holds(program, 2, "x", "y"), False)
        self.assertIs(holds(program, 0, "x", "y"), False)
        self.assertIs(holds(program, 0, "x", "y", entry=Pattern(x=1, y=1)), True)

    def test_a_loop_does_not_keep_what_it_changes(self):
        program = make_program(("x", "y"), (0, (("x", ("f", "x")),), 0))
        self.assertIs(holds(program, 0, "x", "y", entry=Pattern(x=1, y=1)), False)

    def test_points_that_no_run_reaches(self):
        program = make_program(("x", "y"), (1, (), 2), (0, (), 0), size=4)
        for point in (1, 2, 3):
            self.assertIs(holds(program, point, ("a",), ("b",)), True)
            self.assertIs(fits(program, point, Pattern(x=("a",))), True)
            paper = equality_paper(program, point, ("a",), ("b",))
            self.assertEqual(paper, ("table", {0: Pattern(x=1, y=2)}))
            self.assertIs(is_equality_paper(program, point, ("a",), ("b",), paper), True)

    def test_against_runs(self):
        answers = {True: 0, False: 0}
        for seed in range(250):
            program = random_program(seed, points=3, edges=4)
            one = rng(seed)
            values = random_values(one, NAMES, 2, 1) if seed % 3 else None
            entry = None if values is None else pattern(values)
            e, f = random_term(one, NAMES, 1), random_term(one, NAMES, one.randrange(2))
            failing = [run for run, point in all_runs(program, 6) if point == 2 and fails_by_hand(program, run, e, f, values)]
            found = holds(program, 2, e, f, entry=entry)
            answers[found] += 1
            paper = equality_paper(program, 2, e, f, entry=entry)
            self.assertIs(is_equality_paper(program, 2, e, f, paper, entry=entry), True)
            self.assertIs(paper[0] == "table", found)
            if found:
                self.assertEqual(failing, [])
                self.assertEqual(paper[1], table(program, entry=entry))
            else:
                self.assertEqual(len(paper[1]), len(failing[0]))
                self.assertEqual(paper[1], shortest_failing(program, 2, e, f, entry=entry))
            # Exactly the runs that fail are papers, and only where no table is one.
            for run, point in all_runs(program, 4):
                right = point == 2 and fails_by_hand(program, run, e, f, values)
                self.assertIs(is_equality_paper(program, 2, e, f, ("run", run), entry=entry), right)
            right = is_equality_paper(program, 2, e, f, ("table", table(program, entry=entry)), entry=entry)
            self.assertIs(right, found)
        self.assertGreater(min(answers.values()), 15)

    def test_shapes_against_runs(self):
        answers = {True: 0, False: 0}
        for seed in range(200):
            program = random_program(seed, points=3, edges=4, height=1)
            one = rng(seed)
            values = random_values(one, NAMES, 2, 1) if seed % 3 else None
            entry = None if values is None else pattern(values)
            shape = random_values(one, one.choice((("x",), ("y", "z"), ("x", "z"), NAMES)), 3, 1)
            found = fits(program, 2, pattern(shape), entry=entry)
            answers[found] += 1
            failing = [run for run, point in all_runs(program, 5) if point == 2 and misfits_by_hand(program, run, shape, values)]
            paper = shape_paper(program, 2, pattern(shape), entry=entry)
            self.assertIs(paper[0] == "table", found)
            self.assertIs(is_shape_paper(program, 2, pattern(shape), paper, entry=entry), True)
            if found:
                self.assertEqual((failing, paper[1]), ([], table(program, entry=entry)))
            else:
                self.assertEqual(len(paper[1]), len(failing[0]))
                self.assertEqual(paper[1], shortest_misfit(program, 2, pattern(shape), entry=entry))
            for run, point in all_runs(program, 3):
                right = point == 2 and misfits_by_hand(program, run, shape, values)
                self.assertIs(is_shape_paper(program, 2, pattern(shape), ("run", run), entry=entry), right)
            right = is_shape_paper(program, 2, pattern(shape), ("table", table(program, entry=entry)), entry=entry)
            self.assertIs(right, found)
        self.assertGreater(min(answers.values()), 20)

    def test_fewest_edges(self):
        program = make_program(("x", "y"), (0, (("x", ("f", "x")),), 1), (1, (), 2), (2, (), 1), (0, (), 3), (3, (), 2))
        self.assertEqual(len(equality_paper(program, 2, "x", "y", entry=Pattern(x=1, y=1))[1]), 2)
        long = ring(7)
        paper = equality_paper(long, 7, "a", "b", entry=all_but("j"))
        self.assertEqual(len(paper[1]), 49)
        self.assertIs(is_equality_paper(long, 7, "a", "b", paper, entry=all_but("j")), True)
        self.assertEqual(shape_paper(long, 7, Pattern(a=1, b=1), entry=all_but("j")), paper)
        self.assertIs(is_shape_paper(long, 7, Pattern(a=1, b=1), paper, entry=all_but("j")), True)

    def test_value_in_the_common_pattern(self):
        # Two terms have the same value in all patterns of a set exactly if they have it in the common pattern.
        for seed in range(60):
            program = random_program(seed, points=2, edges=3)
            states = [values_after(program, run) for run, point in all_runs(program, 5) if point == 1]
            found = table(program)[1]
            one = rng(seed)
            for _ in range(5):
                e, f = random_term(one, NAMES, 1), random_term(one, NAMES, 1)
                if found.same(e, f):
                    self.assertTrue(all(valued(e, state) == valued(f, state) for state in states))

    def test_renamed_and_renumbered(self):
        for seed in range(60):
            program = random_program(seed, points=4, edges=6)
            renamed = renamed_program(program, x="y", y="v", z="aa")
            turned = renumbered(program, (0, 3, 1, 2))
            one = rng(seed)
            e, f = random_term(one, NAMES, 1), random_term(one, NAMES, 1)
            other = {"x": "y", "y": "v", "z": "aa"}
            for point in range(4):
                found = equality_paper(program, point, e, f)
                self.assertEqual(holds(renamed, point, valued(e, other), valued(f, other)), found[0] == "table")
                self.assertEqual(holds(turned, (0, 3, 1, 2)[point], e, f), found[0] == "table")
                if found[0] == "run":
                    self.assertEqual(equality_paper(renamed, point, valued(e, other), valued(f, other)), found)
                    self.assertEqual(equality_paper(turned, (0, 3, 1, 2)[point], e, f), found)


    def test_operators_renamed(self):
        # The operators change their names in a circle, so that the order of the operators changes, too.
        other = {"a": "f", "f": "g", "g": "s", "h": "a", "s": "b", "b": "h"}
        for seed in range(60):
            program = random_program(seed, points=3, edges=5, height=2)
            edges = tuple((a, tuple((name, resigned(term, other)) for name, term in action), b) for a, action, b in program[2])
            changed = program_from(NAMES, edges, size=3)
            one = rng(seed)
            values = random_values(one, NAMES, 2, 1)
            entry, start = pattern(values), pattern({name: resigned(values[name], other) for name in NAMES})
            e, f = random_term(one, NAMES, 1), random_term(one, NAMES, 1)
            twin = (resigned(e, other), resigned(f, other))
            self.assertEqual(resigned_table(table(program, entry=entry), other), resigned_table(table(changed, entry=start), {}))
            self.assertEqual(shortest_failing(program, 1, e, f, entry=entry), shortest_failing(changed, 1, *twin, entry=start))
            self.assertEqual(heights(program, entry=entry), heights(changed, entry=start))
            found, again = weakest(program, 1, (e, f)), weakest(changed, 1, twin)
            self.assertEqual(resigned_table({} if found is None else {0: found}, other), resigned_table({} if again is None else {0: again}, {}))


def resigned(term, other):
    """Return a term with other operators."""
    if isinstance(term, tuple):
        return (other.get(term[0], term[0]),) + tuple(resigned(inner, other) for inner in term[1:])
    return term


def resigned_table(found, other):
    """Return the rows and places of the patterns of a table, with other operators."""
    return {point: (tuple((other.get(row[0], row[0]),) + row[1:] if isinstance(row, tuple) else row for row in found[point].rows),
                    found[point].places) for point in found}


class PaperTest(unittest.TestCase):
    FREE = Pattern(x=1, y=2)
    NEXT = Pattern(x=1, y=("f", 1))

    def test_tables(self):
        judged = (
            ({0: self.FREE, 1: self.NEXT}, True), ({1: self.NEXT, 0: self.FREE}, True), ({0: self.FREE}, False), ({}, False),
            ({1: self.NEXT}, False), ({0: self.FREE, 1: self.FREE}, False), ({0: self.NEXT, 1: self.NEXT}, False),
            ({0: self.FREE, 1: Pattern(x=("a",), y=("f", ("a",)))}, False), ({0: self.FREE, 1: Pattern(x=("f", 1), y=("f", ("f", 1)))}, False),
            ({0: self.FREE, 1: Pattern(x=1, y=("f", 1), z=2)}, False), ({0: Pattern(x=1), 1: self.NEXT}, False),
            ({0: self.FREE, 1: self.NEXT, 2: self.NEXT}, False), ({0: self.FREE, 1: None}, False), ([self.FREE, self.NEXT], False),
        )
        for value, right in judged:
            self.assertIs(is_equality_paper(LOOP, 1, "y", ("f", "x"), ("table", value)), right)
            self.assertIs(is_shape_paper(LOOP, 1, self.NEXT, ("table", value)), right)
        self.assertIs(is_equality_paper(LOOP, 1, "y", ("f", "x"), ("run", {0: self.FREE, 1: self.NEXT})), False)
        self.assertIs(is_equality_paper(LOOP, 1, "x", ("f", "y"), ("table", {0: self.FREE, 1: self.NEXT})), False)
        self.assertIs(is_equality_paper(LOOP, 0, "y", ("f", "x"), ("table", {0: self.FREE, 1: self.NEXT})), False)
        self.assertIs(is_shape_paper(LOOP, 1, Pattern(y=("f", 1)), ("table", {0: self.FREE, 1: self.NEXT})), True)
        self.assertIs(is_shape_paper(LOOP, 1, Pattern(x=("f", 1)), ("table", {0: self.FREE, 1: self.NEXT})), False)

    def test_more_general_tables(self):
        program = make_program(("x", "y"), (0, (("y", ("f", "x")),), 1), (1, (), 2))
        entry = Pattern(x=("a",), y=1)
        for x in (("a",), 1):
            value = ("table", {0: Pattern(x=x, y=2), 1: Pattern(x=x, y=("f", x)), 2: Pattern(x=x, y=("f", x))})
            self.assertIs(is_equality_paper(program, 2, "y", ("f", "x"), value, entry=entry), True)
            self.assertIs(is_equality_paper(program, 2, "y", ("f", "x"), value), x == 1)
            self.assertIs(is_equality_paper(program, 2, "x", ("a",), value, entry=entry), x != 1)

    def test_points_outside_of_the_table(self):
        program = make_program(("x",), (0, (), 0), (1, (), 2))
        one = Pattern(x=1)
        for value, right in (({0: one}, True), ({0: one, 2: one}, False), ({0: one, 2: Pattern(x=("a",))}, True),
                             ({0: one, 1: one}, False), ({0: one, 1: one, 2: one}, False)):
            self.assertIs(is_equality_paper(program, 2, "x", ("a",), ("table", value)), right)
            self.assertIs(is_shape_paper(program, 2, Pattern(x=("a",)), ("table", value)), right)

    def test_runs(self):
        for run, right in (((0, 1), True), ((0, 1, 1), True), ((0,), False), ((), False), ((1,), False), ((0, 0), False),
                           ((0, 1, 0), False), ((0, 2), False), ([0, 1], False), ((0, True), False), ((0, 1) + (1,) * 5000, True)):
            self.assertIs(is_equality_paper(LOOP, 1, "x", ("a",), ("run", run)), right)
            self.assertIs(is_shape_paper(LOOP, 1, Pattern(x=("a",)), ("run", run)), right)
        for word in ("Run", "rub", "tables", "", None, 0, ("run",)):
            self.assertIs(is_equality_paper(LOOP, 1, "x", ("a",), (word, (0, 1))), False)
            self.assertIs(is_shape_paper(LOOP, 1, Pattern(x=("a",)), (word, (0, 1))), False)
            self.assertIs(is_equality_paper(LOOP, 1, "y", ("f", "x"), (word, table(LOOP))), False)
            self.assertIs(is_shape_paper(LOOP, 1, self.NEXT, (word, table(LOOP))), False)
        self.assertIs(is_equality_paper(LOOP, 0, "x", "y", ("run", ())), True)
        self.assertIs(is_equality_paper(LOOP, 0, "x", "y", ("run", ()), entry=Pattern(x=1, y=1)), False)

    def test_long_runs(self):
        double = make_program(("x", "y"), (0, (("x", ("d", "x", "x")), ("y", ("d", "y", "y"))), 0), (0, (("x", "y"),), 1), (0, (), 1))
        many = (0,) * 90000
        self.assertIs(is_equality_paper(double, 1, "x", "y", ("run", many + (1,))), False)
        self.assertIs(is_equality_paper(double, 1, "x", "y", ("run", many + (2,))), True)
        self.assertIs(is_shape_paper(double, 1, Pattern(x=1, y=1), ("run", many + (1,))), False)
        self.assertIs(is_shape_paper(double, 1, Pattern(x=1, y=1), ("run", many + (2,))), True)

    def test_other_values(self):
        for value in WRONG_PAPERS:
            self.assertIs(is_equality_paper(LOOP, 1, "y", ("f", "x"), value), False)
            self.assertIs(is_equality_paper(LOOP, 1, "x", "y", value), False)
            self.assertIs(is_shape_paper(LOOP, 1, self.NEXT, value), False)

    def test_the_run_of_a_read(self):
        program = make_program(("x", "y"), (0, (("x", 1),), 1), (1, (("y", 1),), 2), (0, (("x", 1), ("y", 1)), 2))
        self.assertIs(is_equality_paper(program, 2, "x", "y", ("run", (0, 1))), True)
        self.assertIs(is_equality_paper(program, 2, "x", "y", ("run", (2,))), False)
        self.assertEqual(equality_paper(program, 2, "x", "y"), ("run", (0, 1)))
        self.assertEqual(shape_paper(program, 2, Pattern(x=1, y=1)), ("run", (0, 1)))


class WeightTest(unittest.TestCase):
    def test_too_large(self):
        program = make_program(("x", "y"), (0, (("x", ("s", "x")),), 1))
        shape = Pattern(x=("s", 1))
        great, fine = powers(x=499, y=0), powers(x=498, y=0)
        self.assertIs(holds(program, 1, "x", "y", entry=fine), False)
        self.assertIs(fits(program, 1, shape, entry=fine), True)
        for call in (lambda: holds(program, 0, "x", "x", entry=great), lambda: equality_paper(program, 0, "x", "y", entry=great),
                     lambda: fits(program, 0, shape, entry=great), lambda: shape_paper(program, 0, shape, entry=great)):
            with self.assertRaises(TooLarge) as caught:
                call()
            self.assertEqual(caught.exception.limit, 500)
        # The functions that judge raise no such error.
        self.assertIs(is_equality_paper(program, 1, "x", "y", ("run", (0,)), entry=great), True)
        self.assertIs(is_shape_paper(program, 1, shape, ("run", (0,)), entry=great), False)
        self.assertIs(is_shape_paper(program, 1, Pattern(x=("a",)), ("run", (0,)), entry=great), True)
        closed = ("table", {0: great, 1: Pattern(x=("s", 1), y=2)})
        self.assertIs(is_shape_paper(program, 1, shape, closed, entry=great), True)
        self.assertIs(is_equality_paper(program, 0, "x", "x", closed, entry=great), True)

    def test_great_shapes(self):
        program = make_program(("x", "y"), (0, (("x", ("s", "x")),), 1))
        self.assertIs(fits(program, 1, powers(x=499).renamed(x="y")), False)
        self.assertEqual(shape_paper(program, 1, powers(x=499)), ("run", (0,)))
        self.assertEqual(shortest_misfit(program, 0, powers(x=499)), ())
        self.assertIs(fits(program, 1, powers(x=499), entry=powers(x=498, y=0)), True)
        many = program_from(tuple("abcdefghij"), ((0, (("a", ("s", "a")),), 0),))
        self.assertEqual(shortest_misfit(many, 0, powers(a=499)), ())


class ErrorsTest(unittest.TestCase):
    def equality_calls(self, program, point, e, f, entry):
        return (lambda: holds(program, point, e, f, entry=entry), lambda: equality_paper(program, point, e, f, entry=entry),
                lambda: is_equality_paper(program, point, e, f, None, entry=entry))

    def shape_calls(self, program, point, shape, entry):
        return (lambda: fits(program, point, shape, entry=entry), lambda: shape_paper(program, point, shape, entry=entry),
                lambda: is_shape_paper(program, point, shape, None, entry=entry))

    def test_programs_and_points(self):
        for value in STRANGE + WRONG_PROGRAMS:
            for call in self.equality_calls(value, None, 1, 1, 0) + self.shape_calls(value, None, None, 0):
                with self.assertRaises(InvalidProgram):
                    call()
        for value in STRANGE + (2, -1, "0", (0,)):
            if value == 0 and value is not False:
                continue
            for call in self.equality_calls(LOOP, value, 1, 1, 0) + self.shape_calls(LOOP, value, None, 0):
                with self.assertRaises(InvalidNumber) as caught:
                    call()
                self.assertIs(caught.exception.value, value)

    def test_terms_and_shapes(self):
        for value in WRONG_TERMS:
            for e, f in ((value, "x"), ("x", value)):
                for call in self.equality_calls(LOOP, 1, e, f, 0):
                    with self.assertRaises(InvalidTerm):
                        call()
        for value in STRANGE:
            if not isinstance(value, Pattern):
                for call in self.shape_calls(LOOP, 1, value, 0):
                    with self.assertRaises(InvalidPattern):
                        call()
        for value in (Pattern(z=1), Pattern(x=1, z=2), Pattern(x=1, y=2, z=3)):
            for call in self.shape_calls(LOOP, 1, value, 0):
                with self.assertRaises(InvalidOperation):
                    call()

    def test_entries(self):
        for value in STRANGE + (Pattern(x=1), Pattern(x=1, y=2, z=3), {}):
            if value is not None:
                for call in self.equality_calls(LOOP, 1, "x", "y", value) + self.shape_calls(LOOP, 1, Pattern(x=1), value):
                    with self.assertRaises(InvalidPattern):
                        call()

    def test_results_that_the_caller_changes(self):
        paper = equality_paper(LOOP, 1, "y", ("f", "x"))
        paper[1].clear()
        self.assertEqual(equality_paper(LOOP, 1, "y", ("f", "x")), ("table", table(LOOP)))
        value = {1: Pattern(x=1, y=("f", 1)), 0: Pattern(x=1, y=2)}
        is_equality_paper(LOOP, 1, "y", ("f", "x"), ("table", value))
        self.assertEqual(list(value), [1, 0])


class NamesTest(unittest.TestCase):
    def test_ordinary(self):
        self.assertEqual(equal_names(Pattern(x=1, y=("f", 1), z=1)), (("x", "z"), ("y",)))
        self.assertEqual(equal_names(Pattern(b=1, a=2, c=1, d=2, e=3)), (("a", "d"), ("b", "c"), ("e",)))
        self.assertEqual(equal_names(Pattern(x=1)), (("x",),))
        self.assertEqual(equal_names(Pattern(x=("a",), y=("a",), z=("b",))), (("x", "y"), ("z",)))
        double = stepped(Pattern(x=1, y=1, z=2), (("x", ("d", "x", "x")), ("y", ("d", "y", "y"))), 80)
        self.assertEqual(equal_names(double), (("x", "y"), ("z",)))
        for value in STRANGE:
            if not isinstance(value, Pattern):
                with self.assertRaises(InvalidPattern):
                    equal_names(value)

    def test_random(self):
        for seed in range(60):
            values = numbered(random_values(rng(seed), TEN[:6], 2, 1))
            found = equal_names(Pattern(**values))
            self.assertEqual(sorted(name for group in found for name in group), sorted(values))
            self.assertEqual(list(found), sorted(found))
            for group in found:
                self.assertEqual(list(group), [name for name in sorted(values) if values[name] == values[group[0]]])


def all_terms(names, operators, height):
    """Return all terms of at most this height, one height after the other."""
    leaves = list(names) + [(name,) for name, many in operators if many == 0]
    terms = leaves
    for _ in range(height):
        terms = leaves + [(name,) + one for name, many in operators if many for one in itertools.product(terms, repeat=many)]
    return terms


class EqualitiesTest(unittest.TestCase):
    BOTH = Pattern(x=1, y=("f", 1), z=1)

    def test_written(self):
        self.assertEqual(list(equalities(self.BOTH, (("f", 1),), height=1)),
                         [("x", "z"), ("y", ("f", "x")), ("y", ("f", "z")), (("f", "x"), ("f", "z"))])
        self.assertEqual(list(equalities(self.BOTH, (("f", 1),), height=0)), [("x", "z")])
        self.assertEqual(list(equalities(self.BOTH, (), height=3)), [("x", "z")])

    def test_against_all_terms(self):
        for seed in range(80):
            one = rng(seed)
            names = one.choice((("x",), ("x", "y"), NAMES))
            values = numbered(random_values(one, names, 2, 2))
            operators = tuple(sorted(one.sample([("a", 0), ("b", 0), ("f", 1), ("g", 2), ("s", 1), ("f", 2)], one.randrange(4))))
            height = one.randrange(3)
            terms = sorted(all_terms(names, operators, height), key=lambda term: (height_of(term), size_of(term), text_of(term)))
            if len(terms) > 200 or not all(is_term(value) for value in values.values()):
                continue
            expected = [(e, f) for k, e in enumerate(terms) for f in terms[k + 1:] if valued(e, values) == valued(f, values)]
            self.assertEqual(list(equalities(Pattern(**values), operators, height=height)), expected)

    def test_height_three(self):
        p = Pattern(x=("f", ("f", ("f", 1))), y=1)
        self.assertEqual(list(equalities(p, (("f", 1),), height=3)), [("x", ("f", ("f", ("f", "y"))))])
        self.assertEqual(list(equalities(p, (("f", 1),), height=2)), [])
        self.assertEqual(list(equalities(Pattern(x=("a",)), (("a", 0),), height=0)), [(("a",), "x")])

    def test_great_values(self):
        double = stepped(Pattern(x=1, y=1), (("x", ("d", "x", "x")),), 80)
        double = double.beside(stepped(Pattern(z=1), (("z", ("d", "z", "z")),), 80))
        self.assertEqual(list(equalities(double.after((("y", ("d", "x", "x")),)), (("d", 2),), height=1)), [("y", ("d", "x", "x"))])

    def test_in_part(self):
        same = Pattern.of({name: 1 for name in TEN})
        found = equalities(same, (("f", 1),), height=3)
        self.assertEqual([next(found), next(found)], [("a", "b"), ("a", "c")])
        self.assertEqual(len(list(equalities(same, (("f", 1),), height=3))), 4 * 45)
        first, second = equalities(same, (), height=0), equalities(same, (), height=0)
        self.assertEqual([next(first), next(second), next(first)], [("a", "b"), ("a", "b"), ("a", "c")])

    def test_many_terms(self):
        def constants(many):
            return tuple(sorted(("c" + "abcdefghijklmnopqrstuvwxyz"[k % 26] + "abcdefghijklmnopqrstuvwxyz"[k // 26], 0) for k in range(many)))

        one = Pattern(x=1)
        self.assertEqual(list(equalities(one, constants(199), height=0)), [])
        self.assertEqual(list(equalities(one, constants(199), height=3)), [])
        self.assertEqual(len(list(equalities(Pattern(x=("caa",)), constants(199), height=0))), 1)
        self.assertEqual(list(equalities(Pattern(x=1, y=2), constants(97) + (("f", 1), ("h", 0)), height=1)), [])
        five = Pattern.free(*"abcde")
        self.assertEqual(list(equalities(Pattern.free(*"abcdefg"), (("h", 1), ("k", 1)), height=2)), [])
        self.assertEqual(list(equalities(five, (("t", 3),), height=1)), [])
        for p, operators, height in (
            (one, constants(200), 0), (one, constants(200), 3), (Pattern(x=1, y=2), constants(99) + (("f", 1),), 1),
            (five, (("f", 1), ("g", 2), ("h", 3)), 3), (Pattern.free(*"abcdef"), (("t", 3),), 1), (one, (("g", 2), ("h", 2)), 3),
            (one, (("f", 1), ("g", 1), ("h", 1), ("k", 1), ("l", 1), ("m", 1)), 3),
        ):
            generator = equalities(p, operators, height=height)
            with self.assertRaises(TooLarge) as caught:
                next(generator)
            self.assertEqual(caught.exception.limit, 200)

    def test_exactly_so_many_terms(self):
        # Two names and 98 constants are 100 terms, and as many more of height 1 make 200.
        letters = "abcdefghijklmnopqrstuvwxyz"
        constants = tuple(sorted(("c" + letters[k % 26] + letters[k // 26], 0) for k in range(98)))
        self.assertEqual(list(equalities(Pattern(x=1, y=1), constants + (("f", 1),), height=1)), [("x", "y"), (("f", "x"), ("f", "y"))])
        generator = equalities(Pattern.free(*"xyz"), constants + (("f", 1),), height=1)
        with self.assertRaises(TooLarge):
            next(generator)

    def test_errors(self):
        for value in STRANGE:
            if not isinstance(value, Pattern):
                with self.assertRaises(InvalidPattern):
                    next(equalities(value, None, height=None))
        for value in STRANGE + (
            (("f", 4),), (("f", -1),), (("f", True),), (("f", None),), (("F", 1),), ((1, "f"),), (("f",),), (("f", 1, 1),),
            (("g", 1), ("f", 1)), (("f", 1), ("f", 1)), (("f", 2), ("f", 1)), [("f", 1)], (["f", 1],), {"f": 1}, ("f", 1),
            (("abcdefghi", 1),), (("f", [1]),), (([1], 1),), {("f", 1): 1},
        ):
            if value == ():
                continue
            with self.assertRaises(InvalidOperation):
                next(equalities(self.BOTH, value, height=None))
        self.assertEqual(list(equalities(self.BOTH, (("f", 1), ("f", 2)), height=0)), [("x", "z")])
        for value in STRANGE + (4, -1, "1", (1,)):
            if value == 0 and value is not False:
                continue
            with self.assertRaises(InvalidNumber) as caught:
                next(equalities(self.BOTH, (("h", 3), ("k", 3)), height=value))
            self.assertIs(caught.exception.value, value)
        equalities(None, None, height=None)

    def test_defined_there(self):
        for name in ("holds", "equality_paper", "is_equality_paper", "fits", "shape_paper", "is_shape_paper", "equal_names",
                     "equalities"):
            self.assertEqual(getattr(module, name).__module__, "termpaths.questions.equalities")


class GuaranteeTest(unittest.TestCase):
    """[0.17], [10.1]: exactly one of two papers exists."""

    def test_one_of_two_papers(self):
        for seed in range(80):
            program = random_program(seed, names=("x", "y"), points=3, edges=5)
            one = rng(seed)
            entry = pattern(random_values(one, ("x", "y"), 2, 1))
            e, f = random_term(one, ("x", "y"), 1), random_term(one, ("x", "y"), 1)
            run = shortest_failing(program, 1, e, f, entry=entry)
            least = table(program, entry=entry)
            self.assertIs(is_closed(program, least, entry=entry), True)
            self.assertIs(is_equality_paper(program, 1, e, f, ("table", least), entry=entry), run is None)
            if run is not None:
                self.assertEqual(end_of(program, run), 1)
                self.assertIs(state_after(program, run, entry=entry).same(e, f), False)

    def test_turn(self):
        self.assertEqual(equality_paper(TURN, 1, "x", "y", entry=SAME), ("run", (0, 1)))
        self.assertIs(holds(TURN, 1, "x", "y", entry=Pattern(x=("a",), y=("a",), z=("a",))), True)


if __name__ == "__main__":
    unittest.main()
