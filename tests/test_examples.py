"""The written examples of the document."""

import unittest

from tests.hand import FORK, LOOP, TURN
from termpaths.base.terms import height_of, parts_of, put, size_of
from termpaths.bounds.heights import greatest_height, height_after, height_paper, is_height_paper, size_after
from termpaths.conditions.conditions import (
    before, condition_paper, condition_rounds, forced, is_condition_paper, weakest,
)
from termpaths.models.models import Model, failing_model, is_failing_model
from termpaths.patterns.matching import is_misfit, match
from termpaths.patterns.patterns import Pattern
from termpaths.patterns.solving import is_solving_paper, solved
from termpaths.programs.programs import make_program
from termpaths.programs.runs import end_of, runs, state_after
from termpaths.programs.statements import statement_program
from termpaths.questions.equalities import equal_names, equalities, fits, holds, is_equality_paper
from termpaths.questions.failing import failing_lengths, failing_runs, shortest_failing
from termpaths.tables.tables import rounds, table


class ExamplesTest(unittest.TestCase):
    def test_terms(self):
        term = ("f", "x", ("g", "x"))
        self.assertEqual([size_of(term), height_of(term), list(parts_of(term))],
                         [4, 2, ["x", ("g", "x"), ("f", "x", ("g", "x"))]])
        self.assertEqual(put(("f", "x", "y"), x="y", y=("g", "x")), ("f", "y", ("g", "x")))

    def test_patterns(self):
        p = Pattern(x=7, y=("f", 7, ("g", 3)))
        self.assertEqual(
            [p["y"], p.holes, p.weight, p.rows, p.places, p == Pattern(x=1, y=("f", 1, ("g", 2)))],
            [("f", 1, ("g", 2)), 2, 4, (1, 2, ("g", 1), ("f", 0, 2)), {"x": 0, "y": 3}, True])
        self.assertEqual(
            [p(("g", "x")), p.same("y", ("f", "x", ("g", "x"))), p.after((("x", "y"), ("y", 1)))["x"], len(p), "z" in p],
            [("g", 1), False, ("f", 1, ("g", 2)), 2, False])

    def test_instances(self):
        p = Pattern(x=7, y=("f", 7, ("g", 3)))
        misfit = ("unlike", ("x",), ("y",))
        self.assertEqual(
            [match(Pattern(x=1, y=2), p), is_misfit(Pattern(x=1, y=1), p, misfit), p <= Pattern(x=1, y=2),
             p <= Pattern(x=1, y=1)],
            [{1: 0, 2: 3}, True, True, False])

    def test_common_patterns(self):
        found = Pattern(x=("a",), y=("f", ("a",))) | Pattern(x=("b",), y=("f", ("b",)))
        self.assertEqual(found["y"], ("f", 1))

    def test_solving(self):
        s = solved(("x", "y", "z"), ("x", ("f", "y")), (("f", "z"), "x"))
        circle = ("refuted", (("x", ("f", "x"), ("given", 0)),), ("within", (0,)))
        self.assertEqual(
            [s["x"], s["y"], s["z"], is_solving_paper(("x",), (("x", ("f", "x")),), circle)],
            [("f", 1), 1, 1, True])

    def test_programs(self):
        loop = make_program(("x", "y"), (0, (("x", ("a",)), ("y", ("f", ("a",)))), 1),
                            (1, (("x", ("f", "x")), ("y", ("f", "y"))), 1))
        self.assertEqual(loop[:2], (("x", "y"), 2))
        fork = make_program(("x", "y", "z"), (0, (("x", ("f", "z")), ("y", "z")), 1), (0, (("x", ("f", "y")),), 1))
        self.assertEqual([fork[1], len(fork[2])], [2, 2])
        self.assertEqual((loop, fork), (LOOP, FORK))

    def test_statements(self):
        program, marks = statement_program(
            ("x",), ("seq", ("do", (("x", ("a",)),)), ("repeat", ("do", (("x", ("f", "x")),))), ("mark", "end")))
        self.assertEqual(
            [program[1:], marks],
            [(4, ((0, (("x", ("a",)),), 1), (1, (), 2), (2, (("x", ("f", "x")),), 3), (3, (), 2))), {"end": 2}])

    def test_runs(self):
        self.assertEqual(
            [state_after(LOOP, (0, 1))["y"], end_of(LOOP, (0, 1)), list(runs(LOOP, longest=2)), state_after(FORK, (1,))["x"]],
            [("f", ("f", ("a",))), 1, [(), (0,), (0, 1)], ("f", 1)])

    def test_tables(self):
        self.assertEqual(
            [table(LOOP)[1] == Pattern(x=1, y=("f", 1)), [sorted(one) for one in rounds(LOOP)], table(FORK)[1]["x"]],
            [True, [[0], [0, 1], [0, 1]], ("f", 1)])

    def test_failing_runs(self):
        same = Pattern(x=1, y=1, z=2)
        self.assertEqual(
            [shortest_failing(TURN, 1, "x", "y", entry=same), failing_lengths(TURN, 1, "x", "y", longest=5, entry=same),
             list(failing_runs(FORK, 1, "x", "y", length=1))],
            [(0, 1), (2, 3, 5), [(0,), (1,)]])

    def test_equalities_and_shapes(self):
        self.assertEqual([holds(LOOP, 1, "y", ("f", "x")), holds(FORK, 1, "x", ("f", "y")), holds(LOOP, 1, "x", ("a",))],
                         [True, True, False])
        self.assertEqual(
            [is_equality_paper(LOOP, 1, "x", ("a",), ("run", (0, 1))), fits(LOOP, 1, Pattern(y=("f", 1))),
             fits(LOOP, 1, Pattern(x=("f", 1)))],
            [True, True, False])
        both = Pattern(x=1, y=("f", 1), z=1)
        self.assertEqual(
            [equal_names(both), list(equalities(both, (("f", 1),), height=1))],
            [(("x", "z"), ("y",)), [("x", "z"), ("y", ("f", "x")), ("y", ("f", "z")), (("f", "x"), ("f", "z"))]])

    def test_weakest_conditions(self):
        self.assertEqual(
            [weakest(FORK, 1, ("x", ("f", "z"))) == Pattern(x=1, y=2, z=2), weakest(LOOP, 1, ("x", "y")),
             len(list(condition_rounds(FORK, 1, ("y", "z"))))],
            [True, None, 2])
        self.assertEqual(
            [before(Pattern(x=1, y=("f", 1)), (("y", ("f", "x")),)) == Pattern.free("x", "y"),
             before(Pattern(x=1, y=1), (("x", 1),))],
            [True, None])
        self.assertEqual(
            [forced(FORK, ((0,),), ("x", ("f", "z"))).holes, is_condition_paper(FORK, 1, (("x", "z"),), ("none", ((0,),))),
             condition_paper(LOOP, 1, ("x", "y"))[0]],
            [3, True, "none"])

    def test_models(self):
        model = Model(2, {("f", 0): 1})
        self.assertEqual(
            [model.evaluate(("f", ("f", "x")), x=0), model.values_of(Pattern(x=1, y=("f", 1)), (0,)),
             model == Model(2, {("f", 1): 0}, other=1), str(model)],
            [0, {"x": 0, "y": 1}, False, "model of 2 values, 1 entries"])
        model, holes, reads = failing_model(LOOP, (0, 1), "x", ("a",))
        self.assertEqual(
            [model.total <= 3, len(holes), reads, is_failing_model(LOOP, (0,), "x", "y", (Model(2, {("f", 0): 1}), (0, 0), ()))],
            [True, 2, (), True])

    def test_heights(self):
        self.assertEqual(
            [height_paper(LOOP, 1, "x")[0], greatest_height(FORK, 1, "x"), height_after(LOOP, (0, 1, 1), "y"),
             size_after(LOOP, (0, 1, 1), "y")],
            ["grows", 1, 3, 4])
        self.assertIs(is_height_paper(FORK, 1, "y", ("bounded", {(0, "y"): 0, (0, "z"): 0, (1, "y"): 0}, (1,))), True)


if __name__ == "__main__":
    unittest.main()
