"""[16.1] to [16.4], stage 16: an optimizer."""

import itertools
import unittest

from tests.hand import FORK, LOOP, NAMES, all_runs, pattern, random_program, valued, values_after
from tests.pairing import path_by_hand
from tests.reference import STRANGE, powers, random_values, rng, tall, wide
from tests.test_heights import WRONG_NAMES
from tests.test_programs import WRONG_PROGRAMS
from termpaths.bounds.cheapest import cheapest, holders
from termpaths.errors import InvalidNumber, InvalidOperation, InvalidPattern, InvalidProgram, TooLarge, UnknownName
from termpaths.optimizer import optimizer as module
from termpaths.optimizer.optimizer import (
    is_need_paper, labels_of, need_paper, needed, optimized, program_cost, removed, replaced,
)
from termpaths.pairs.following import follows
from termpaths.pairs.pairs import agree
from termpaths.patterns.patterns import Pattern
from termpaths.programs.programs import make_program, program_from, reached_points, renamed_program
from termpaths.programs.runs import state_after
from termpaths.tables.tables import table

TWICE = make_program(NAMES, (0, (("x", ("f", "z")),), 1), (1, (("y", ("g", ("f", "z"))),), 2), (2, (("x", ("h", "x")),), 2))
WRONG_OUTPUTS = (
    None, 0, True, "x", [], {}, ("x",), (0, "x"), ((0,),), ((0, "x", 0),), ([0, "x"],), ((3, "x"),), ((-1, "x"),), ((True, "x"),), ((0, "w"),),
    ((0, None),), ((0, ["x"]),), ((0, "x"), None), ((None, "x"),), (("0", "x"),), {(0, "x"): 1}, ((0, ("x",)),),
)


def variables(term):
    if isinstance(term, tuple):
        return {name for inner in term[1:] for name in variables(inner)}
    return {term} if isinstance(term, str) else set()


def goes_into(program):
    """Return triples ((u, z), edge, (v, x)) such that z at u goes into x at v."""
    found = []
    for k, (u, action, v) in enumerate(program[2]):
        for x in program[0]:
            for z in variables(dict(action).get(x, x)):
                found.append(((u, z), k, (v, x)))
    return found


def needed_by_hand(program, outputs):
    found = set(outputs)
    for _ in range(program[1] * len(program[0])):
        found |= {source for source, _, target in goes_into(program) if target in found}
    return tuple(sorted(found))


def random_outputs(one, program):
    return tuple((one.randrange(program[1]), one.choice(program[0])) for _ in range(one.randrange(3)))


class ReplacedTest(unittest.TestCase):
    def test_written(self):
        self.assertEqual(optimized(TWICE, ((2, "y"),))[2], ((0, (("x", ("f", "z")),), 1), (1, (("y", ("g", "x")),), 2), (2, (), 2)))
        self.assertEqual(
            [program_cost(TWICE), program_cost(replaced(TWICE)), needed(TWICE, ((1, "x"),)), removed(TWICE, ((2, "z"),))[2][1]],
            [4, 3, ((0, "z"), (1, "x")), (1, (), 2)])

    def action(self, action, **values):
        """Return what the action becomes where the values are these."""
        program = make_program(tuple(values), (0, action, 1))
        return replaced(program, entry=Pattern(**values))[2][0][1]

    def test_actions(self):
        self.assertEqual(self.action((("x", ("f", "y")),), x=("f", 1), y=1), ())
        self.assertEqual(self.action((("y", ("f", "y")),), x=("f", 1), y=1), (("y", "x"),))
        self.assertEqual(self.action((("z", ("g", ("f", "y"), "z")),), x=("f", 1), y=1, z=2), (("z", ("g", "x", "z")),))
        # The least one of several names, also for a term that is only a variable; the set name itself keeps its value.
        self.assertEqual(self.action((("z", "y"),), x=1, y=1, z=2), (("z", "x"),))
        self.assertEqual(self.action((("z", "y"),), x=2, y=1, z=1), ())
        self.assertEqual(self.action((("x", "x"), ("z", ("f", "y"))), w=("f", 1), v=("f", 1), x=3, y=1, z=2), (("z", "v"),))
        self.assertEqual(self.action((("v", ("f", "y")),), w=("f", 1), u=("f", 1), v=2, y=1), (("v", "u"),))
        # In a part the set name may stand.
        self.assertEqual(self.action((("x", ("g", "y")),), x=1, y=1), (("x", ("g", "x")),))
        self.assertEqual(self.action((("c", ("a",)), ("d", ("k", ("a",)))), c=1, d=2, b=("a",)), (("c", "b"), ("d", ("k", "b"))))
        # All at once: x is f(y) as before, and y becomes what x was.
        self.assertEqual(self.action((("x", "y"), ("y", ("f", "y"))), x=("f", 1), y=1), (("x", "y"), ("y", "x")))
        self.assertEqual(self.action((), x=1), ())

    def test_integers(self):
        # A part with an integer has a value that no name holds.
        self.assertEqual(self.action((("x", 1),), x=1, y=2), (("x", 1),))
        self.assertEqual(self.action((("x", ("g", 7, ("f", "y"))),), x=("f", 1), y=1), (("x", ("g", 7, "x")),))
        self.assertEqual(self.action((("x", ("g", ("f", "y"), ("f", 3))), ("y", ("f", 3))), x=("f", 1), y=1, z=("f", 1)),
                         (("x", ("g", "x", ("f", 3))), ("y", ("f", 3))))
        self.assertEqual(self.action((("x", ("g", 500, 1, 500)),), x=1), (("x", ("g", 500, 1, 500)),))

    def test_points_that_no_run_reaches(self):
        program = make_program(("x", "y"), (1, (("x", "x"), ("y", ("f", ("f", "x")))), 0), (0, (("x", "x"),), 0))
        self.assertEqual(replaced(program)[2], (program[2][0], (0, (), 0)))

    def test_loops(self):
        # In the loop y is always f(x), but only x is computed anew.
        program = make_program(NAMES, (0, (("y", ("f", "x")),), 1), (1, (("x", ("g", "x")), ("y", ("f", ("g", "x")))), 1), (1, (("z", ("f", "x")),), 2))
        self.assertEqual(replaced(program)[2][2][1], (("z", "y"),))
        self.assertEqual(replaced(program)[2][1][1], program[2][1][1])
        self.assertEqual(replaced(LOOP)[2], (LOOP[2][0], (1, (("x", "y"), ("y", ("f", "y"))), 1)))
        self.assertEqual(replaced(FORK), FORK)
        self.assertEqual(replaced(FORK, entry=Pattern(x=("f", 1), y=1, z=1))[2], ((0, (), 1), (0, (), 1)))
        self.assertEqual(replaced(FORK, entry=Pattern(x=1, y=2, z=2))[2][0], (0, (("x", ("f", "y")),), 1))

    def test_random(self):
        fewer = 0
        for seed in range(200):
            program = random_program(seed, points=3, edges=5, height=1 + seed % 2)
            values = random_values(rng(seed), NAMES, 2, 1) if seed % 3 else None
            entry = None if values is None else pattern(values)
            found = replaced(program, entry=entry)
            self.assertEqual(found[:2], program[:2])
            self.assertLessEqual(program_cost(found), program_cost(program))
            fewer += program_cost(found) < program_cost(program)
            patterns = table(program, entry=entry)
            for (u, action, v), (first, other, last) in zip(program[2], found[2]):
                self.assertEqual((first, last), (u, v))
                if u not in patterns:
                    self.assertEqual(other, action)
                    continue
                for name, term in action:
                    if variables(term) == set() and not isinstance(term, tuple) or has_integer(term):
                        self.assertIn(name, dict(other))
                    elif name in holders(patterns[u], term):
                        self.assertNotIn(name, dict(other))
                    else:
                        self.assertEqual(dict(other)[name], cheapest(patterns[u], term))
            for run, _ in all_runs(program, 3):
                self.assertEqual(values_after(found, run, values), values_after(program, run, values))
        self.assertTrue(fewer > 5, fewer)

    def test_great_terms(self):
        program = make_program(("x",), (0, (("x", wide(60)),), 0))
        self.assertEqual(replaced(program), program)
        program = make_program(("x", "y"), (0, (("y", tall(7)),), 0))
        self.assertEqual(replaced(program), program)

    def test_too_large(self):
        program = program_from(("x",), tuple((k, (("x", tall(7)),), k + 1) for k in range(59)))
        self.assertEqual(replaced(program), program)
        for call in (lambda entry: replaced(program, entry=entry), lambda entry: optimized(program, (), entry=entry)):
            self.assertEqual(call(powers(x=499 - 59 * 7))[1], 60)
            with self.assertRaises(TooLarge) as caught:
                call(powers(x=500 - 59 * 7))
            self.assertEqual(caught.exception.limit, 500)

    def test_renamed(self):
        for seed in range(40):
            program = random_program(seed, height=2)
            # The least name is taken, so the order of the names must stay.
            changes = {"x": "a", "y": "b", "z": "c"}
            self.assertEqual(renamed_program(replaced(program), **changes), replaced(renamed_program(program, **changes)))


def has_integer(term):
    return isinstance(term, int) or isinstance(term, tuple) and any(has_integer(inner) for inner in term[1:])


class NeededTest(unittest.TestCase):
    def test_ordinary(self):
        self.assertEqual(needed(TWICE, ()), ())
        self.assertEqual(needed(TWICE, ((2, "x"),)), ((0, "z"), (1, "x"), (2, "x")))
        self.assertEqual(needed(TWICE, ((2, "x"), (2, "y"), (2, "x"))), ((0, "z"), (1, "x"), (1, "z"), (2, "x"), (2, "y")))
        self.assertEqual(needed(LOOP, ((1, "y"),)), ((1, "y"),))
        # Points that no run reaches count, too.
        program = make_program(("x", "y"), (1, (("x", "y"),), 2), (2, (), 0), (3, (("y", ("a",)),), 1), size=5)
        self.assertEqual(needed(program, ((0, "x"),)), ((0, "x"), (1, "y"), (2, "x")))
        self.assertEqual(needed(program, ((4, "y"),)), ((4, "y"),))

    def test_removed(self):
        # An assignment in a loop that only serves itself is idle.
        program = make_program(("x", "y"), (0, (("x", ("f", "x")), ("y", ("g", "y"))), 0), (0, (), 1))
        self.assertEqual(removed(program, ((1, "y"),))[2], ((0, (("y", ("g", "y")),), 0), (0, (), 1)))
        self.assertEqual(removed(program, ()), (("x", "y"), 2, ((0, (), 0), (0, (), 1))))
        self.assertEqual(removed(program, ((1, "x"), (1, "y"))), program)
        # The value is overwritten before the output.
        program = make_program(("x", "y"), (0, (("x", ("f", "y")),), 1), (1, (("x", ("a",)),), 2))
        self.assertEqual(removed(program, ((2, "x"),))[2], ((0, (), 1), (1, (("x", ("a",)),), 2)))
        self.assertEqual(removed(program, ((1, "x"),))[2], ((0, (("x", ("f", "y")),), 1), (1, (), 2)))
        program = make_program(("x",), (1, (("x", ("a",)),), 2), (2, (("x", 1),), 2))
        self.assertEqual(removed(program, ((1, "x"),))[2], ((1, (), 2), (2, (), 2)))
        self.assertEqual(removed(program, ((2, "x"),)), program)

    def test_random(self):
        for seed in range(200):
            one = rng(seed)
            program = random_program(seed, points=4, edges=6)
            outputs = random_outputs(one, program)
            wanted = needed_by_hand(program, outputs)
            self.assertEqual(needed(program, outputs), wanted)
            found = removed(program, outputs)
            self.assertEqual(found, (*program[:2], tuple((u, tuple(pair for pair in action if (v, pair[0]) in wanted), v) for u, action, v in program[2])))
            self.assertLessEqual(program_cost(found), program_cost(program))
            self.assertEqual(removed(found, outputs), found)
            names = tuple((u, u, name, name) for u, name in outputs)
            self.assertIs(agree(program, found, labels_of(program), names), True)

    def test_papers(self):
        for seed in range(80):
            one = rng(seed)
            program = random_program(seed, points=3, edges=4)
            outputs = random_outputs(one, program)
            wanted = needed_by_hand(program, outputs)
            steps = set(goes_into(program))
            for point, name in itertools.product(range(program[1]), program[0]):
                paper = need_paper(program, outputs, point, name)
                self.assertEqual(paper[0], "needed" if (point, name) in wanted else "idle")
                self.assertIs(is_need_paper(program, outputs, point, name, paper), True)
                # Exactly one kind: all ways, and the smallest and the greatest closed sets.
                for path, names in ways(program, point, name, 3):
                    end = (path_by_hand(program, path, point), names[-1])
                    self.assertIs(is_need_paper(program, outputs, point, name, ("needed", path, names)), end in outputs)
                everything = tuple(itertools.product(range(program[1]), program[0]))
                self.assertIs(is_need_paper(program, outputs, point, name, ("idle", wanted)), (point, name) not in wanted)
                for size in (1, 2):
                    for more in itertools.islice(itertools.combinations([pair for pair in everything if pair not in wanted], size), 12):
                        pairs = tuple(sorted(wanted + more))
                        closed = all(source in pairs for source, _, target in steps if target in pairs)
                        self.assertIs(is_need_paper(program, outputs, point, name, ("idle", pairs)), closed and (point, name) not in pairs)
                self.assertIs(is_need_paper(program, outputs, point, name, ("idle", everything)), False)


def ways(program, point, name, longest):
    """Return all paths with names, each of which goes into the next one."""
    found = [((), (name,), point)]
    last = found
    for _ in range(longest):
        last = [(path + (k,), names + (x,), v) for path, names, here in last for (u, z), k, (v, x) in goes_into(program) if (u, z) == (here, names[-1])]
        found = found + last
    return [(path, names) for path, names, _ in found]


class PapersTest(unittest.TestCase):
    def setUp(self):
        self.program = make_program(NAMES, (0, (("x", ("f", "y", "z")),), 1), (1, (("y", "x"),), 0), (1, (("x", ("a",)),), 2), (2, (), 2))
        self.outputs = ((2, "y"),)

    def judge(self, point, name, value):
        return is_need_paper(self.program, self.outputs, point, name, value)

    def test_needed(self):
        for point, name, path, names, good in (
            (2, "y", (), ("y",), True), (2, "y", (3,), ("y", "y"), True), (2, "y", (3,) * 900, ("y",) * 901, True),
            (1, "y", (2,), ("y", "y"), True), (1, "x", (1, 0, 2), ("x", "y", "y", "y"), True), (0, "z", (0, 1, 0, 2), ("z", "x", "y", "y", "y"), True),
            (0, "z", (0, 1) * 200 + (0, 2), ("z",) + ("x", "y") * 200 + ("y", "y"), True),
            (0, "z", (0, 1) * 200 + (0, 2), ("z",) + ("x", "y") * 199 + ("x", "x") + ("y", "y"), False),
            (0, "y", (0, 1) * 200 + (0, 2), ("y", "x") * 200 + ("y", "y", "y"), True),
            (0, "y", (0, 2), ("y", "y", "y"), True), (0, "y", (0, 2), ("y", "x", "y"), False), (0, "y", (0, 2), ("y", "y"), False),
            (0, "y", (0, 2), ("y", "y", "y", "y"), False), (0, "y", (0, 2), ["y", "y", "y"], False), (0, "y", [0, 2], ("y", "y", "y"), False),
            (0, "y", (0,), ("y", "y"), False), (0, "y", (0, 3), ("y", "y", "y"), False), (0, "y", (0, True), ("y", "y", "y"), False),
            (0, "x", (0, 2), ("y", "y", "y"), False), (0, "y", (0, 2), ("x", "y", "y"), False), (1, "x", (2,), ("x", "y"), False),
            (0, "y", (0, 2), ("y", "y", "x"), False), (0, "y", (0, 2), ("y", "y", None), False), (0, "y", (0, 2), ("y", ["y"], "y"), False),
            (0, "y", (), ("y",), False), (0, "y", None, None, False), (0, "y", (0, 2), None, False), (2, "y", (), (), False), (2, "y", (), "y", False),
            (2, "y", None, ("y",), False), (2, "y", {}, ("y",), False), (2, "y", 0, ("y",), False),
        ):
            self.assertIs(self.judge(point, name, ("needed", path, names)), good, (point, name, path[:5] if path else path))

    def test_idle(self):
        smallest = tuple((u, name) for u, name in ((0, "x"), (0, "y"), (0, "z"), (1, "x"), (1, "y"), (1, "z"), (2, "y")) if (u, name) != (0, "x"))
        self.assertEqual(needed(self.program, self.outputs), smallest)
        self.assertEqual(need_paper(self.program, self.outputs, 2, "x"), ("idle", smallest))
        for asked in ((0, "x"), (2, "x"), (2, "z")):
            self.assertIs(self.judge(*asked, ("idle", smallest)), True)
            for k in range(len(smallest)):
                self.assertIs(self.judge(*asked, ("idle", smallest[:k] + smallest[k + 1:])), False)
            self.assertIs(self.judge(*asked, ("idle", tuple(sorted(smallest + (asked,))))), False)
        self.assertIs(self.judge(0, "x", ("idle", smallest + ((2, "z"),))), True)
        self.assertIs(self.judge(2, "z", ("idle", ((0, "x"),) + smallest)), True)
        self.assertIs(self.judge(0, "y", ("idle", smallest)), False)
        for pairs in (smallest[::-1], list(smallest), smallest + smallest[-1:], smallest + ((3, "x"),), smallest + ((2, "w"),), smallest + (None,),
                      smallest + ([2, "z"],), ((False, "y"),) + smallest[1:], (), None, "pairs", {(2, "y"): 1}, smallest + ((2, "z", 0),)):
            self.assertIs(self.judge(0, "x", ("idle", pairs)), False)
        for value in (("Idle", smallest), ("needed", smallest), (None, smallest), ["idle", smallest], ("idle", smallest, 0)):
            self.assertIs(self.judge(0, "x", value), False)
        self.assertIs(is_need_paper(self.program, (), 0, "x", ("idle", ())), True)

    def test_other_values(self):
        for value in STRANGE + (("idle",), ("needed",), ("needed", ()), ("needed", (), ("y",), 0), ("Needed", (), ("y",)), (None, ()), ["needed", (), ("y",)]):
            self.assertIs(self.judge(2, "y", value), False)

    def test_errors(self):
        for call in (lambda *rest: removed(*rest[:2]), lambda *rest: needed(*rest[:2]), need_paper, lambda *rest: is_need_paper(*rest, None),
                     lambda *rest: optimized(*rest[:2], entry=0)):
            for value in STRANGE + WRONG_PROGRAMS:
                with self.assertRaises(InvalidProgram):
                    call(value, None, None, None)
            for value in WRONG_OUTPUTS:
                with self.assertRaises(InvalidOperation):
                    call(TWICE, value, None, None)
        for call in (need_paper, lambda *rest: is_need_paper(*rest, None)):
            for value in (-1, 3, True, None, "0", (), [0], 10 ** 39):
                with self.assertRaises(InvalidNumber) as caught:
                    call(TWICE, ((2, "x"),), value, None)
                self.assertIs(caught.exception.value, value)
            for value in WRONG_NAMES:
                with self.assertRaises(UnknownName) as caught:
                    call(TWICE, (), 0, value)
                self.assertIs(caught.exception.name, value)
        for call in (replaced, program_cost, labels_of):
            for value in STRANGE + WRONG_PROGRAMS:
                with self.assertRaises(InvalidProgram):
                    call(value)
        for value in STRANGE + (Pattern(x=1), Pattern(w=1, x=2, y=3)):
            if value is not None:
                for call in (replaced, lambda program, entry: optimized(program, (), entry=entry)):
                    with self.assertRaises(InvalidPattern):
                        call(TWICE, entry=value)

    def test_defined_there(self):
        for name in ("replaced", "removed", "optimized", "needed", "need_paper", "is_need_paper", "program_cost", "labels_of"):
            self.assertEqual(getattr(module, name).__module__, "termpaths.optimizer.optimizer")


class OptimizedTest(unittest.TestCase):
    def test_costs_and_labels(self):
        self.assertEqual(program_cost(make_program(("x",))), 0)
        self.assertEqual(program_cost(FORK), 2)
        self.assertEqual(program_cost(make_program(("x", "y"), (0, (("x", ("f", ("a",), ("g", 1, "y"))), ("y", "x")), 0), (1, (("x", 3),), 0))), 3)
        self.assertEqual(labels_of(TWICE), (0, 1, 2))
        self.assertEqual(labels_of(make_program(("x",))), ())

    def test_random(self):
        others = 0
        orders = 0
        for seed in range(150):
            one = rng(seed)
            program = random_program(seed, points=3, edges=5, height=2)
            values = random_values(one, NAMES, 2, 1) if seed % 3 else None
            entry = None if values is None else pattern(values)
            outputs = random_outputs(one, program)
            found = optimized(program, outputs, entry=entry)
            self.assertEqual(found, removed(replaced(program, entry=entry), outputs))
            self.assertIs(follows(program, found, labels_of(program)), True)
            self.assertIs(agree(program, found, labels_of(program), tuple((u, u, name, name) for u, name in outputs), entry=entry), True)
            self.assertLessEqual(program_cost(found), program_cost(program))
            self.assertEqual([(u, v) for u, _, v in found[2]], [(u, v) for u, _, v in program[2]])
            others += replaced(found, entry=entry) != found
            orders += found != replaced(removed(program, outputs), entry=entry)
        # Replaced again it can become another program, and so it can in the other order.
        self.assertTrue(others > 0 and orders > 0, (others, orders))

    def test_replaced_again(self):
        # What x held is left out, as nothing needs it; then y is no longer what x is.
        program = make_program(NAMES, (0, (("x", ("f", "z")),), 1), (1, (("y", ("f", "z")),), 2))
        found = optimized(program, ((2, "y"),))
        self.assertEqual(found[2], ((0, (("x", ("f", "z")),), 1), (1, (("y", "x"),), 2)))
        self.assertEqual(replaced(removed(program, ((2, "y"),)))[2], ((0, (), 1), (1, (("y", ("f", "z")),), 2)))
        # y becomes a copy of x, and what is computed from it becomes a copy only when it is replaced again.
        program = make_program(("a", "b", "c"), (0, (("b", ("f", "a")),), 1), (1, (("a", ("f", "a")), ("c", "b")), 2), (2, (("b", ("g", "c")),), 3))
        once = replaced(program)
        self.assertEqual(once[2][1][1], (("a", "b"), ("c", "b")))
        self.assertEqual(once[2][2][1], (("b", ("g", "a")),))

    def test_entry_and_points(self):
        self.assertIn(1, reached_points(TWICE))
        entry = Pattern(x=("f", 1), y=2, z=1)
        found = optimized(TWICE, ((2, "y"),), entry=entry)
        self.assertEqual(found[2], ((0, (), 1), (1, (("y", ("g", "x")),), 2), (2, (), 2)))
        self.assertEqual(state_after(found, (0, 1), entry=entry)["y"], ("g", ("f", 1)))
        self.assertEqual(valued(("g", ("f", "z")), {"z": 1}), ("g", ("f", 1)))


if __name__ == "__main__":
    unittest.main()
