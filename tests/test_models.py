"""[12.1] to [12.3], stage 12: finite models."""

import unittest

from tests.hand import (
    FORK, LOOP, NAMES, TURN, all_runs, free_values, pattern, random_program, valued, values_after,
)
from tests.reference import (
    STRANGE, numbered, parts, powers, random_term, random_values, rng, stepped, tall, wide,
)
from tests.test_failing import WRONG_TERMS
from tests.test_programs import WRONG_PROGRAMS
from tests.test_runs import WRONG_RUNS
from termpaths.errors import (
    InvalidModel, InvalidNumber, InvalidOperation, InvalidPattern, InvalidProgram, InvalidRun, InvalidTerm, TooLarge,
    UnknownName,
)
from termpaths.models import models as module
from termpaths.models.models import Model, failing_model, is_failing_model, is_separating_model, separating_model
from termpaths.patterns.patterns import Pattern
from termpaths.programs.programs import make_program
from termpaths.programs.runs import state_after, values_read

TWO = Model(2, {("f", 0): 1})
WRONG_ENTRIES = (
    None, [], (), "x", 3, True, {"f": 0}, {(): 0}, {("F",): 0}, {("f", 3): 0}, {("f", -1): 0}, {("f", 0): 3}, {("f", 0): -1},
    {("f", 0): None}, {("f", 0): True}, {("f", True): 0}, {("f", 0): "0"}, {("f", "0"): 0}, {("f", 0, 0, 0, 0): 0}, {(0, "f"): 0},
    {("f", None): 0}, {("abcdefghi",): 0}, {("f", (0,)): 0}, {1: 0}, {None: 0}, [(("f", 0), 0)], {("f", 0): (0,)}, {("",): 0},
    {("f", 0): 0, ("f", 10 ** 39): 0}, {(("f",),): 0}, {("f", 0): [0]}, Pattern(x=1), {("f", 0): {}},
)


def random_model(one, size):
    """Return a model with some entries."""
    entries = {}
    for _ in range(one.randrange(3 * size)):
        operator, many = one.choice((("f", 1), ("g", 2), ("h", 3), ("f", 2), ("s", 1), ("a", 0), ("b", 0)))
        entries[(operator,) + tuple(one.randrange(size) for _ in range(many))] = one.randrange(size)
    return Model(size, entries, other=one.randrange(size)), entries


def evaluated_by_hand(term, values, entries, other):
    if isinstance(term, tuple):
        inner = tuple(evaluated_by_hand(one, values, entries, other) for one in term[1:])
        return entries.get((term[0],) + inner, other)
    return values[term]


class MadeTest(unittest.TestCase):
    def test_sizes(self):
        for size in (1, 2, 200):
            model = Model(size, {("f", size - 1): size - 1}, other=0)
            self.assertEqual((model.total, model.other), (size, 0))
            self.assertEqual(model.entries, {("f", size - 1): size - 1} if size > 1 else {})
        for size in STRANGE + (201, -1, 0, "2", (2,)):
            with self.assertRaises(InvalidNumber) as caught:
                Model(size, None, other=None)
            self.assertIs(caught.exception.value, size)

    def test_entries(self):
        model = Model(3, {("g", 1, 2): 2, ("g", 1): 1, ("f",): 2, ("h", 2, 2, 2): 1, ("g", 0, 2): 1, ("a",): 0, ("g", 0): 0})
        self.assertEqual(list(model.entries.items()),
                         [(("f",), 2), (("g", 0, 2), 1), (("g", 1), 1), (("g", 1, 2), 2), (("h", 2, 2, 2), 1)])
        other = Model(3, model.entries, other=1)
        self.assertEqual(other.entries, {("f",): 2, ("g", 1, 2): 2})
        self.assertEqual([other.other, model.other, len(other), len(model), len(TWO), len(Model(1, {}))], [1, 0, 2, 5, 1, 0])
        for value in WRONG_ENTRIES:
            with self.assertRaises(InvalidModel):
                Model(3, value, other=None)

    def test_other(self):
        for value in STRANGE + (3, -1, "0", (0,)):
            if value == 0 and value is not False:
                continue
            with self.assertRaises(InvalidNumber) as caught:
                Model(3, {}, other=value)
            self.assertIs(caught.exception.value, value)
        self.assertEqual(Model(3, {}), Model(3, {}, other=0))
        self.assertEqual(Model(3, {}, other=2).other, 2)

    def test_equal(self):
        self.assertTrue(TWO == Model(2, {("f", 0): 1, ("g",): 0}))
        self.assertFalse(TWO != Model(2, {("f", 0): 1}))
        for value in STRANGE + (Model(3, {("f", 0): 1}), Model(2, {}), Model(2, {("f", 1): 0}, other=1), Model(2, {("f", 0): 1, ("g",): 1}),
                                Model(2, {("f", 0): 1}, other=1), 2, "model of 2 values, 1 entries"):
            self.assertFalse(TWO == value)
            self.assertTrue(TWO != value)
        for size, other in ((3, 2), (4, 0)):
            self.assertNotEqual(Model(3, {("f", 0): 1}), Model(size, {("f", 0): 1}, other=other))
        # They are not equal, though each gives every operator the same values.
        self.assertNotEqual(Model(1, {}), Model(2, {}))
        first = Model(2, {("a",): 1}, other=0)
        self.assertEqual(first, Model(2, first.entries, other=first.other))

    def test_str(self):
        self.assertEqual([str(TWO), str(Model(200, {})), str(Model(1, {("f",): 0}))],
                         ["model of 2 values, 1 entries", "model of 200 values, 0 entries", "model of 1 values, 0 entries"])

    def test_no_access(self):
        entries = {("f", 0): 1}
        model = Model(2, entries)
        entries[("f", 1)] = 1
        model.entries[("g",)] = 1
        model.entries.clear()
        self.assertEqual((model.entries, len(model)), ({("f", 0): 1}, 1))
        self.assertEqual(entries, {("f", 0): 1, ("f", 1): 1})

    def test_cannot_be_iterated(self):
        for call in (lambda: list(TWO), lambda: iter(TWO), lambda: 0 in TWO):
            with self.assertRaises(TypeError):
                call()

    def test_defined_there(self):
        for name in ("total", "other", "entries", "__call__", "evaluate", "values_of", "after", "__eq__", "__len__", "__str__"):
            self.assertIn(name, vars(Model))
        for name in ("Model", "separating_model", "is_separating_model", "failing_model", "is_failing_model"):
            self.assertEqual(getattr(module, name).__module__, "termpaths.models.models")


class ValueTest(unittest.TestCase):
    def test_written(self):
        self.assertEqual(TWO.evaluate(("f", ("f", "x")), x=0), 0)
        self.assertEqual(TWO(("f", ("f", "x")), {"x": 0}), 0)
        self.assertEqual([TWO(("f", "x"), {"x": 0}), TWO(("f", "x"), {"x": 1}), TWO("x", {"x": 1}), TWO(("g",), {}), TWO(("f", "x", "x"), {"x": 0})],
                         [1, 0, 1, 0, 0])

    def test_names_of_parameters(self):
        self.assertEqual(TWO(("f", "term"), {"term": 0, "self": 1}), 1)
        self.assertEqual(TWO(("f", "self"), {"self": 0, "term": 1, "values": 1}), 1)
        self.assertEqual(TWO.evaluate(("f", "values"), values=0), 1)
        self.assertEqual(TWO.evaluate("x", x=1, y=0), 1)

    def test_random(self):
        for seed in range(200):
            one = rng(seed)
            size = 1 + seed % 5
            model, entries = random_model(one, size)
            term = random_term(one, NAMES, 3)
            values = {name: one.randrange(size) for name in NAMES}
            expected = evaluated_by_hand(term, values, entries, model.other)
            self.assertEqual(model(term, values), expected)
            self.assertEqual(model.evaluate(term, **values), expected)
            found = numbered(random_values(one, NAMES, 3, 3))
            p = Pattern(**found)
            holes = tuple(one.randrange(size) for _ in range(p.holes))
            at_holes = {k + 1: value for k, value in enumerate(holes)}
            self.assertEqual(list(model.values_of(p, holes).items()),
                             [(name, evaluated_by_hand(found[name], at_holes, entries, model.other)) for name in NAMES])

    def test_great_values(self):
        double = stepped(Pattern(x=1), (("x", ("d", "x", "x")),), 80)
        turn = Model(3, {("d", 0, 0): 1, ("d", 1, 1): 2})
        self.assertEqual(turn.values_of(double, (0,)), {"x": 80 % 3})
        self.assertEqual(Model(2, {("s", 0): 1}).values_of(powers(x=499, y=498), (0,)), {"x": 1, "y": 0})
        self.assertEqual(Model(2, {("s", 0): 1})(tall(7), {"x": 0}), 1)
        self.assertEqual(Model(2, {})(wide(60), {"x": 1}), 0)

    def test_errors_of_values(self):
        for value in STRANGE + (1, ("f", 1), ("f", "x", 500), wide(61), tall(8)):
            for call in (lambda: TWO(value, None), lambda: TWO.evaluate(value, X=7)):
                with self.assertRaises(InvalidTerm):
                    call()
        for values in (None, (), [], {"x": 2}, {"x": -1}, {"x": True}, {"x": None}, {"X": 0, "x": 0}, {1: 0, "x": 0}, {"x": 0, "y": "0"}, "x",
                       {"x": 0, None: 0}, {"x": 0, ("x",): 0}, {"x": 0, "abcdefghi": 0}, Pattern(x=1), {"x": (0,)}):
            with self.assertRaises(InvalidModel):
                TWO(("f", "x", "y"), values)
        for more in ({"x": 2}, {"x": 0, "Y": 0}, {"x": True}, {"x": 0, "abcdefghi": 0}, {"x": 0, "a_b": 1}):
            with self.assertRaises(InvalidModel):
                TWO.evaluate(("f", "x", "y"), **more)
        for call in (lambda: TWO(("f", "z", ("g", "y", "x")), {"z": 0, "x": 1}), lambda: TWO.evaluate(("f", "z", "y")),
                     lambda: TWO("y", {"x": 0})):
            with self.assertRaises(UnknownName) as caught:
                call()
            self.assertEqual(caught.exception.name, "y")

    def test_errors_of_holes(self):
        p = Pattern(x=1, y=("f", 2))
        for value in STRANGE:
            if not isinstance(value, Pattern):
                with self.assertRaises(InvalidPattern):
                    TWO.values_of(value, None)
        for holes in STRANGE + ((0,), (0, 1, 0), [0, 1], (0, 2), (0, -1), (0, True), (0, None), {0: 1, 1: 1}, (0, "1"), "01"):
            with self.assertRaises(InvalidModel):
                TWO.values_of(p, holes)
        self.assertEqual(TWO.values_of(Pattern(x=("a",)), ()), {"x": 0})


class AfterTest(unittest.TestCase):
    READS = make_program(("x", "y"), (0, (("x", 7), ("y", ("f", 3, "x"))), 1), (1, (("x", ("f", "y", 5)), ("y", 5)), 1), (1, (("x", "y"), ("y", "x")), 1))

    def test_reads_in_their_order(self):
        model = Model(5, {("f", a, b): (2 * a + b) % 5 for a in range(5) for b in range(5)})
        # The first edge reads for 3 and then for 7; each pass of the second one reads one value.
        self.assertEqual(model.after(self.READS, (0,), {"x": 4, "y": 0}, reads=(1, 2)), {"x": 2, "y": (2 * 1 + 4) % 5})
        self.assertEqual(model.after(self.READS, (0, 1, 1), {"x": 4, "y": 0}, reads=(1, 2, 3, 4)), {"x": (2 * 3 + 4) % 5, "y": 4})
        self.assertEqual(model.after(self.READS, (0, 2), {"y": 0, "x": 4}, reads=(1, 2)), {"x": 1, "y": 2})
        self.assertEqual(list(model.after(self.READS, (), {"y": 0, "x": 4})), ["x", "y"])
        self.assertEqual(model.after(self.READS, (), {"y": 0, "x": 4}, reads=()), {"x": 4, "y": 0})

    def test_against_the_state(self):
        for seed in range(200):
            one = rng(seed)
            size = 1 + seed % 4
            model, entries = random_model(one, size)
            program = random_program(seed, edges=5)
            run = one.choice([run for run, _ in all_runs(program, 4)])
            values = {name: one.randrange(size) for name in NAMES}
            reads = tuple(one.randrange(size) for _ in range(values_read(program, run)))
            # The integers of the state are those of the entry and, from 10000 on, those that are read.
            leaves = {**{k + 1: values[name] for k, name in enumerate(NAMES)}, **{10000 + k: value for k, value in enumerate(reads)}}
            expected = {name: evaluated_by_hand(term, leaves, entries, model.other)
                        for name, term in values_after(program, run, free_values(program)).items()}
            self.assertEqual(model.after(program, run, values, reads=reads), expected)

    def test_errors(self):
        good = {"x": 0, "y": 1}
        for value in STRANGE + WRONG_PROGRAMS:
            with self.assertRaises(InvalidProgram):
                TWO.after(value, None, None, reads=None)
        for value in WRONG_RUNS + ((0,) + (1,) * 200,):
            with self.assertRaises(InvalidRun):
                TWO.after(LOOP, value, None, reads=None)
        for values in STRANGE + ({"x": 0}, {"x": 0, "y": 1, "z": 0}, {"x": 0, "y": 2}, {"x": 0, "y": True}, {"x": 0, "z": 1}, [("x", 0), ("y", 1)],
                                 {"x": 0, 1: 1}, {"x": 0, "y": None}, {"x": 0, "y": "1"}):
            with self.assertRaises(InvalidModel):
                TWO.after(LOOP, (0,), values)
        for reads in STRANGE + ((0,), (0, 1, 1), [0, 1], (0, 2), (0, -1), (0, True), (0, None), None):
            with self.assertRaises(InvalidModel):
                TWO.after(self.READS, (0,), good, reads=reads)
        for reads in (None, [], (0,)):
            with self.assertRaises(InvalidModel):
                TWO.after(LOOP, (0,), good, reads=reads)
        with self.assertRaises(InvalidModel):
            TWO.after(self.READS, (0,), good)
        self.assertEqual(good, {"x": 0, "y": 1})

    def test_longest_runs(self):
        turn = Model(3, {("f", 0): 1, ("f", 1): 2})
        self.assertEqual(turn.after(LOOP, (0,) + (1,) * 199, {"x": 2, "y": 2}), {"x": 199 % 3, "y": 200 % 3})


class SeparatingTest(unittest.TestCase):
    def test_random(self):
        made = 0
        for seed in range(300):
            one = rng(seed)
            values = numbered(random_values(one, NAMES, 2, 3))
            p = Pattern(**values)
            e, f = random_term(one, NAMES, 2), random_term(one, NAMES, 1)
            if p.same(e, f):
                with self.assertRaises(InvalidOperation):
                    separating_model(p, e, f)
                self.assertIs(is_separating_model(p, e, f, (TWO, (0,) * p.holes)), False)
                continue
            made += 1
            model, holes = separating_model(p, e, f)
            many = len(set(parts(valued(e, values)) + parts(valued(f, values))))
            self.assertLessEqual(model.total, many + 1)
            self.assertEqual(len(holes), p.holes)
            found = model.values_of(p, holes)
            self.assertNotEqual(model(e, found), model(f, found))
            self.assertIs(is_separating_model(p, e, f, (model, holes)), True)
            self.assertIs(is_separating_model(p, f, e, (model, holes)), True)
            self.assertIs(is_separating_model(p, e, e, (model, holes)), False)
            other, entries = random_model(one, 3)
            guess = tuple(one.randrange(3) for _ in range(p.holes))
            found = other.values_of(p, guess)
            right = evaluated_by_hand(e, found, entries, other.other) != evaluated_by_hand(f, found, entries, other.other)
            self.assertIs(is_separating_model(p, e, f, (other, guess)), right)
        self.assertGreater(made, 150)

    def test_small_ones(self):
        p = Pattern(x=1, y=2, z=("a",))
        self.assertLessEqual(separating_model(p, "x", "y")[0].total, 3)
        self.assertLessEqual(separating_model(p, "z", ("b",))[0].total, 3)
        model, holes = separating_model(p, "x", ("f", "x"))
        self.assertLessEqual(model.total, 3)
        self.assertEqual(len(holes), 2)

    def test_greatest(self):
        # s(s(..)) with 198 signs over a hole has 199 parts, among which those of the other value are.
        self.assertLessEqual(separating_model(powers(x=198, y=0), "x", "y")[0].total, 200)
        self.assertIs(is_separating_model(powers(x=198, y=0), "x", "y", separating_model(powers(x=198, y=0), "x", "y")), True)
        for p, e, f in ((powers(x=199, y=0), "x", "y"), (powers(x=198, y=0), ("s", "x"), "y"), (powers(x=100).beside(powers(y=98)), "x", "y")):
            with self.assertRaises(TooLarge) as caught:
                separating_model(p, e, f)
            self.assertEqual(caught.exception.limit, 200)
            with self.assertRaises(InvalidOperation):
                separating_model(p, e, e)
        fine = powers(x=99).beside(powers(y=98))
        self.assertIs(is_separating_model(fine, "x", "y", separating_model(fine, "x", "y")), True)
        # The parts of other names do not count.
        self.assertLessEqual(separating_model(powers(x=400).beside(Pattern(y=1, z=2)), "y", "z")[0].total, 3)

    def test_great_values(self):
        double = stepped(Pattern(x=1, y=1, z=2), (("x", ("d", "x", "x")), ("y", ("d", "y", "y")), ("z", ("d", "z", "z"))), 90)
        model, holes = separating_model(double, "x", "z")
        self.assertIs(is_separating_model(double, "x", "z", (model, holes)), True)
        self.assertIs(is_separating_model(double, "x", "y", (model, holes)), False)
        with self.assertRaises(InvalidOperation):
            separating_model(double, "x", "y")
        self.assertIs(is_separating_model(double, "x", ("d", "x", "x"), separating_model(double, "x", ("d", "x", "x"))), True)

    def test_judged(self):
        p = Pattern(x=1, y=("f", 1), z=2)
        pair = (TWO, (0, 0))
        self.assertIs(is_separating_model(p, "x", "y", pair), True)
        for value in STRANGE + (
            (TWO,), (TWO, (0,)), (TWO, (0, 0, 0)), (TWO, [0, 0]), [TWO, (0, 0)], (TWO, (0, 2)), (TWO, (0, -1)), (TWO, (True, 0)),
            (TWO, (1, 0), ()), ((0, 0), TWO), (None, (0, 0)), (Model(1, {}), (0, 0)), (TWO, None), (Model(2, {}), (0, 0)), TWO,
            (Model(2, {("f", 0): 1}, other=1), (1, 0)), ({"total": 2}, (0, 0)), (TWO, ("0", 0)), (TWO, {0: 0, 1: 0}),
        ):
            self.assertIs(is_separating_model(p, "x", "y", value), False)
        self.assertIs(is_separating_model(p, "x", "y", (Model(200, {("f", 0): 199}), (0, 17))), True)
        self.assertIs(is_separating_model(p, "x", "y", (Model(2, {}), (1, 0))), True)

    def test_errors(self):
        for value in STRANGE:
            if not isinstance(value, Pattern):
                for call in (lambda: separating_model(value, 1, 1), lambda: is_separating_model(value, 1, 1, None)):
                    with self.assertRaises(InvalidPattern):
                        call()
        for value in WRONG_TERMS:
            for e, f in ((value, "x"), ("x", value)):
                for call in (lambda: separating_model(Pattern(x=1, y=2), e, f), lambda: is_separating_model(Pattern(x=1, y=2), e, f, None)):
                    with self.assertRaises(InvalidTerm):
                        call()


class FailingTest(unittest.TestCase):
    def test_written(self):
        model, holes, reads = failing_model(LOOP, (0, 1), "x", ("a",))
        self.assertEqual([model.total <= 3, len(holes), reads], [True, 2, ()])
        self.assertIs(is_failing_model(LOOP, (0,), "x", "y", (Model(2, {("f", 0): 1}), (0, 0), ())), True)

    def test_random(self):
        made, read = 0, 0
        for seed in range(400):
            one = rng(seed)
            program = random_program(seed, edges=5, height=2)
            values = random_values(one, NAMES, 2, 1) if seed % 3 else None
            entry = None if values is None else pattern(values)
            run = one.choice([run for run, _ in all_runs(program, 4)])
            e, f = random_term(one, NAMES, 1), random_term(one, NAMES, 1)
            state = values_after(program, run, values)
            first, second = valued(e, state), valued(f, state)
            if first == second:
                with self.assertRaises(InvalidOperation):
                    failing_model(program, run, e, f, entry=entry)
                continue
            made += 1
            model, holes, reads = failing_model(program, run, e, f, entry=entry)
            self.assertLessEqual(model.total, len(set(parts(first) + parts(second))) + 1)
            start = Pattern.free(*NAMES) if entry is None else entry
            self.assertEqual((len(holes), len(reads)), (start.holes, values_read(program, run)))
            read += len(reads) > 0
            behind = model.after(program, run, model.values_of(start, holes), reads=reads)
            self.assertNotEqual(model(e, behind), model(f, behind))
            self.assertIs(is_failing_model(program, run, e, f, (model, holes, reads), entry=entry), True)
            self.assertIs(is_failing_model(program, run, e, e, (model, holes, reads), entry=entry), False)
            other, entries = random_model(one, 2)
            guess = tuple(one.randrange(2) for _ in holes), tuple(one.randrange(2) for _ in reads)
            behind = other.after(program, run, other.values_of(start, guess[0]), reads=guess[1])
            right = other(e, behind) != other(f, behind)
            self.assertIs(is_failing_model(program, run, e, f, (other,) + guess, entry=entry), right)
        self.assertGreater(made, 200)
        self.assertGreater(read, 50)

    def test_an_edge_that_is_passed_twice(self):
        program = make_program(("x", "y"), (0, (("x", 1), ("y", "x")), 0), (0, (("x", 1), ("y", 1)), 0))
        model, holes, reads = failing_model(program, (0, 0), "x", "y")
        self.assertEqual((len(holes), len(reads)), (2, 2))
        self.assertNotEqual(reads[0], reads[1])
        self.assertLessEqual(model.total, 3)
        self.assertIs(is_failing_model(program, (0, 0), "x", "y", (model, holes, reads[:1] * 2)), False)
        with self.assertRaises(InvalidOperation):
            failing_model(program, (0, 1), "x", "y")
        self.assertIs(is_failing_model(program, (0, 1), "x", "y", (model, holes, reads)), False)
        # A value that is read and then forgotten needs a value, too.
        model, holes, reads = failing_model(program, (0, 0, 0), "x", "y")
        self.assertEqual(len(reads), 3)
        self.assertIs(is_failing_model(program, (0, 0, 0), "x", "y", (model, holes, reads)), True)

    def test_greatest(self):
        step = make_program(("x", "y"), (0, (("x", ("s", "x")),), 0))
        for many, fine in ((198, True), (199, False)):
            run = (0,) * many
            if fine:
                found = failing_model(step, run, "x", "y", entry=Pattern(x=1, y=1))
                self.assertLessEqual(found[0].total, 200)
                self.assertIs(is_failing_model(step, run, "x", "y", found, entry=Pattern(x=1, y=1)), True)
                continue
            with self.assertRaises(TooLarge) as caught:
                failing_model(step, run, "x", "y", entry=Pattern(x=1, y=1))
            self.assertEqual(caught.exception.limit, 200)
            self.assertIs(is_failing_model(step, run, "x", "y", (Model(2, {}), (1,), ()), entry=Pattern(x=1, y=1)), True)
        with self.assertRaises(InvalidOperation):
            failing_model(step, (0,) * 200, "x", "x")

    def test_great_states(self):
        step = make_program(("x", "y"), (0, (("x", ("s", "x")),), 0), (0, (("x", "y"),), 0))
        entry = powers(x=499, y=0)
        for call in (lambda: failing_model(step, (0, 1), "x", "x", entry=entry), lambda: is_failing_model(step, (0, 1), "x", "y", None, entry=entry),
                     lambda: failing_model(step, (0,), "x", "y", entry=entry)):
            with self.assertRaises(TooLarge) as caught:
                call()
            self.assertEqual(caught.exception.limit, 500)
        with self.assertRaises(InvalidOperation):
            failing_model(step, (0, 1), "x", "y", entry=powers(x=498, y=0))
        self.assertIs(is_failing_model(step, (0, 1), "x", "y", None, entry=powers(x=498, y=0)), False)
        self.assertEqual(state_after(step, (0,), entry=powers(x=498, y=0)).weight, 500)
        double = make_program(("x", "y"), (0, (("x", ("d", "x", "x")), ("y", ("d", "y", "y"))), 0))
        found = failing_model(double, (0,) * 90, "x", "y")
        self.assertIs(is_failing_model(double, (0,) * 90, "x", "y", found), True)

    def test_judged(self):
        program = make_program(("x", "y"), (0, (("x", ("f", 1)),), 1))
        triple = (Model(2, {("f", 0): 1}), (0, 0), (0,))
        self.assertIs(is_failing_model(program, (0,), "x", "y", triple), True)
        model, holes, reads = triple
        for value in STRANGE + (
            (model, holes), (model, holes, reads, ()), [model, holes, reads], (model, (0,), reads), (model, (0, 0, 0), reads), (model, [0, 0], reads),
            (model, holes, ()), (model, holes, (0, 0)), (model, holes, [0]), (model, holes, (2,)), (model, (0, 2), reads), (model, holes, (True,)),
            (None, holes, reads), (Model(2, {}), holes, reads), (Model(1, {}), holes, reads), (model, (0, 1), reads), (model, holes, (1,)),
            (model, None, reads), (model, holes, None), (holes, model, reads), (Model(2, {("f", 0): 1}, other=1), (1, 1), reads), triple[0],
        ):
            self.assertIs(is_failing_model(program, (0,), "x", "y", value), False)
        self.assertIs(is_failing_model(program, (0,), "x", "y", (Model(200, {("f", 0): 199}), holes, reads)), True)
        self.assertIs(is_failing_model(program, (0,), "x", "y", (model, (0,), reads), entry=Pattern(x=1, y=1)), True)
        self.assertIs(is_failing_model(program, (0,), "x", "y", (model, (0, 0), reads), entry=Pattern(x=1, y=1)), False)
        self.assertIs(is_failing_model(program, (0,), "x", "y", (model, (), reads), entry=Pattern(x=("c",), y=("c",))), True)

    def test_errors(self):
        def calls(program, run, e, f, entry):
            return (lambda: failing_model(program, run, e, f, entry=entry), lambda: is_failing_model(program, run, e, f, None, entry=entry))

        for value in STRANGE + WRONG_PROGRAMS:
            for call in calls(value, None, 1, 1, 0):
                with self.assertRaises(InvalidProgram):
                    call()
        for value in WRONG_RUNS + ((0,) + (1,) * 200,):
            for call in calls(LOOP, value, 1, 1, 0):
                with self.assertRaises(InvalidRun):
                    call()
        for value in WRONG_TERMS:
            for e, f in ((value, "x"), ("x", value)):
                for call in calls(LOOP, (0,), e, f, 0):
                    with self.assertRaises(InvalidTerm):
                        call()
        for value in STRANGE + (Pattern(x=1), Pattern(x=1, y=2, z=3)):
            if value is not None:
                for call in calls(LOOP, (0,), "x", "y", value):
                    with self.assertRaises(InvalidPattern):
                        call()

    def test_model_of_a_failing_run_of_fork(self):
        found = failing_model(FORK, (1,), "x", ("f", "z"))
        self.assertIs(is_failing_model(FORK, (1,), "x", ("f", "z"), found), True)
        # In the other run the terms have the same value, in each model.
        for seed in range(20):
            model, _ = random_model(rng(seed), 3)
            self.assertIs(is_failing_model(FORK, (0,), "x", ("f", "z"), (model, (0, 1, 2), ())), False)
        self.assertEqual(len(failing_model(TURN, (), "x", "y")[1]), 3)


if __name__ == "__main__":
    unittest.main()
