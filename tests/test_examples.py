"""The written examples of the document."""

import unittest

from tests.hand import FORK, LOOP, TURN
from termpaths.base.terms import height_of, parts_of, put, size_of
from termpaths.bounds.cheapest import cheapest, cheapest_steps, cost_of
from termpaths.bounds.heights import greatest_height, height_after, height_paper, is_height_paper, size_after
from termpaths.conditions.conditions import (
    before, condition_paper, condition_rounds, forced, is_condition_paper, weakest,
)
from termpaths.models.models import Model, failing_model, is_failing_model
from termpaths.optimizer.optimizer import needed, optimized, program_cost, removed, replaced
from termpaths.pairs.following import following_paper, follows
from termpaths.pairs.pairs import agree, agreement_paper, paired
from termpaths.patterns.matching import is_misfit, match
from termpaths.patterns.patterns import Pattern
from termpaths.patterns.solving import is_solving_paper, solved
from termpaths.programs.programs import make_program
from termpaths.programs.runs import end_of, runs, state_after
from termpaths.programs.statements import statement_program
from termpaths.questions.equalities import equal_names, equalities, fits, holds, is_equality_paper
from termpaths.questions.failing import failing_lengths, failing_runs, shortest_failing
from termpaths.store.store import Store
from termpaths.tables.tables import rounds, table
from termpaths.text.formats import format_pattern, format_program, parse_action
from termpaths.text.shell import Shell
from termpaths.text.tables import table_text


class ExamplesTest(unittest.TestCase):
    def test_terms(self):
        term = ("f", "x", ("g", "x"))
        self.assertEqual([size_of(term), height_of(term), list(parts_of(term))],
                         [4, 2, ["x", ("g", "x"), ("f", "x", ("g", "x"))]])
        self.assertEqual(put(("f", "x", "y"), x="y", y=("g", "x")), ("f", "y", ("g", "x")))

    def test_patterns(self):
        p = Pattern(x=7, y=("f", 7, ("g", 3)))
        self.assertEqual(
            [p["y"], p.holes, p.weight, p.rows, p.places, p == Pattern(x=1, y=("f", 1, ("g", 2)))],
            [("f", 1, ("g", 2)), 2, 4, (1, 2, ("g", 1), ("f", 0, 2)), {"x": 0, "y": 3}, True])
        self.assertEqual(
            [p(("g", "x")), p.same("y", ("f", "x", ("g", "x"))), p.after((("x", "y"), ("y", 1)))["x"], len(p), "z" in p],
            [("g", 1), False, ("f", 1, ("g", 2)), 2, False])

    def test_instances(self):
        p = Pattern(x=7, y=("f", 7, ("g", 3)))
        misfit = ("unlike", ("x",), ("y",))
        self.assertEqual(
            [match(Pattern(x=1, y=2), p), is_misfit(Pattern(x=1, y=1), p, misfit), p <= Pattern(x=1, y=2),
             p <= Pattern(x=1, y=1)],
            [{1: 0, 2: 3}, True, True, False])

    def test_common_patterns(self):
        found = Pattern(x=("a",), y=("f", ("a",))) | Pattern(x=("b",), y=("f", ("b",)))
        self.assertEqual(found["y"], ("f", 1))

    def test_solving(self):
        s = solved(("x", "y", "z"), ("x", ("f", "y")), (("f", "z"), "x"))
        circle = ("refuted", (("x", ("f", "x"), ("given", 0)),), ("within", (0,)))
        self.assertEqual(
            [s["x"], s["y"], s["z"], is_solving_paper(("x",), (("x", ("f", "x")),), circle)],
            [("f", 1), 1, 1, True])

    def test_programs(self):
        loop = make_program(("x", "y"), (0, (("x", ("a",)), ("y", ("f", ("a",)))), 1),
                            (1, (("x", ("f", "x")), ("y", ("f", "y"))), 1))
        self.assertEqual(loop[:2], (("x", "y"), 2))
        fork = make_program(("x", "y", "z"), (0, (("x", ("f", "z")), ("y", "z")), 1), (0, (("x", ("f", "y")),), 1))
        self.assertEqual([fork[1], len(fork[2])], [2, 2])
        self.assertEqual((loop, fork), (LOOP, FORK))

    def test_statements(self):
        program, marks = statement_program(
            ("x",), ("seq", ("do", (("x", ("a",)),)), ("repeat", ("do", (("x", ("f", "x")),))), ("mark", "end")))
        self.assertEqual(
            [program[1:], marks],
            [(4, ((0, (("x", ("a",)),), 1), (1, (), 2), (2, (("x", ("f", "x")),), 3), (3, (), 2))), {"end": 2}])

    def test_runs(self):
        self.assertEqual(
            [state_after(LOOP, (0, 1))["y"], end_of(LOOP, (0, 1)), list(runs(LOOP, longest=2)), state_after(FORK, (1,))["x"]],
            [("f", ("f", ("a",))), 1, [(), (0,), (0, 1)], ("f", 1)])

    def test_tables(self):
        self.assertEqual(
            [table(LOOP)[1] == Pattern(x=1, y=("f", 1)), [sorted(one) for one in rounds(LOOP)], table(FORK)[1]["x"]],
            [True, [[0], [0, 1], [0, 1]], ("f", 1)])

    def test_failing_runs(self):
        same = Pattern(x=1, y=1, z=2)
        self.assertEqual(
            [shortest_failing(TURN, 1, "x", "y", entry=same), failing_lengths(TURN, 1, "x", "y", longest=5, entry=same),
             list(failing_runs(FORK, 1, "x", "y", length=1))],
            [(0, 1), (2, 3, 5), [(0,), (1,)]])

    def test_equalities_and_shapes(self):
        self.assertEqual([holds(LOOP, 1, "y", ("f", "x")), holds(FORK, 1, "x", ("f", "y")), holds(LOOP, 1, "x", ("a",))],
                         [True, True, False])
        self.assertEqual(
            [is_equality_paper(LOOP, 1, "x", ("a",), ("run", (0, 1))), fits(LOOP, 1, Pattern(y=("f", 1))),
             fits(LOOP, 1, Pattern(x=("f", 1)))],
            [True, True, False])
        both = Pattern(x=1, y=("f", 1), z=1)
        self.assertEqual(
            [equal_names(both), list(equalities(both, (("f", 1),), height=1))],
            [(("x", "z"), ("y",)), [("x", "z"), ("y", ("f", "x")), ("y", ("f", "z")), (("f", "x"), ("f", "z"))]])

    def test_weakest_conditions(self):
        self.assertEqual(
            [weakest(FORK, 1, ("x", ("f", "z"))) == Pattern(x=1, y=2, z=2), weakest(LOOP, 1, ("x", "y")),
             len(list(condition_rounds(FORK, 1, ("y", "z"))))],
            [True, None, 2])
        self.assertEqual(
            [before(Pattern(x=1, y=("f", 1)), (("y", ("f", "x")),)) == Pattern.free("x", "y"),
             before(Pattern(x=1, y=1), (("x", 1),))],
            [True, None])
        self.assertEqual(
            [forced(FORK, ((0,),), ("x", ("f", "z"))).holes, is_condition_paper(FORK, 1, (("x", "z"),), ("none", ((0,),))),
             condition_paper(LOOP, 1, ("x", "y"))[0]],
            [3, True, "none"])

    def test_models(self):
        model = Model(2, {("f", 0): 1})
        self.assertEqual(
            [model.evaluate(("f", ("f", "x")), x=0), model.values_of(Pattern(x=1, y=("f", 1)), (0,)),
             model == Model(2, {("f", 1): 0}, other=1), str(model)],
            [0, {"x": 0, "y": 1}, False, "model of 2 values, 1 entries"])
        model, holes, reads = failing_model(LOOP, (0, 1), "x", ("a",))
        self.assertEqual(
            [model.total <= 3, len(holes), reads, is_failing_model(LOOP, (0,), "x", "y", (Model(2, {("f", 0): 1}), (0, 0), ()))],
            [True, 2, (), True])

    def test_heights(self):
        self.assertEqual(
            [height_paper(LOOP, 1, "x")[0], greatest_height(FORK, 1, "x"), height_after(LOOP, (0, 1, 1), "y"),
             size_after(LOOP, (0, 1, 1), "y")],
            ["grows", 1, 3, 4])
        self.assertIs(is_height_paper(FORK, 1, "y", ("bounded", {(0, "y"): 0, (0, "z"): 0, (1, "y"): 0}, (1,))), True)

    def test_cheapest_terms(self):
        known = Pattern(x=1, y=("f", 1))
        self.assertEqual(
            [cheapest(known, ("g", ("f", "x"), ("f", ("f", "x")))), cost_of(("g", ("h", "x"), ("h", "x")), costs={"h": 5}),
             cheapest_steps(known, ("g", ("h", "x"), ("h", "x")))],
            [("g", "y", ("f", "y")), 11, (("h", "x"), ("g", 1, 1))])

    def test_pairs_of_programs(self):
        short = make_program(("x", "y", "z"), (0, (("x", ("f", "z")), ("y", "z")), 1), (0, (), 2), (2, (("x", ("f", "y")),), 1))
        self.assertEqual(
            [follows(FORK, short, (0, None, 1)), following_paper(FORK, short, (0, 1, 1))[0],
             following_paper(FORK, short, (0, None, None))[0]],
            [True, "lost", "stuck"])
        self.assertEqual(
            [paired(FORK, short, (0, None, 1))[1], agree(FORK, short, (0, None, 1), ((1, 1, "x", "x"),)),
             agreement_paper(FORK, short, (0, None, 1), ((1, 1, "x", "z"),))[0]],
            [((0, 0), (0, 2), (1, 1)), True, "differ"])

    def test_optimizer(self):
        twice = make_program(("x", "y", "z"), (0, (("x", ("f", "z")),), 1), (1, (("y", ("g", ("f", "z"))),), 2),
                             (2, (("x", ("h", "x")),), 2))
        self.assertEqual(optimized(twice, ((2, "y"),))[2], ((0, (("x", ("f", "z")),), 1), (1, (("y", ("g", "x")),), 2), (2, (), 2)))
        self.assertEqual(
            [program_cost(twice), program_cost(replaced(twice)), needed(twice, ((1, "x"),)), removed(twice, ((2, "z"),))[2][1]],
            [4, 3, ((0, "z"), (1, "x")), (1, (), 2)])

    def test_store(self):
        store = Store()
        self.assertEqual(store.apply(("put", "loop", LOOP), ("assert", ("equal", "loop", 1, "y", ("f", "x")))), 1)
        self.assertEqual(store.apply(("edge", "loop", (1, (("y", "x"),), 1))), 2)
        self.assertEqual(
            [store.status(0), store.undo(), store.status(0), str(store)],
            [("broken", (0, 2)), 1, ("kept",), "store with 1 programs, 1 assertions"])

    def test_texts(self):
        self.assertEqual(
            [format_program(FORK), format_pattern(Pattern(x=7, y=("f", 7, ("a",))))],
            ["names x y z\npoints 2\n0 -> 1: x := f(z); y := z\n0 -> 1: x := f(y)", "x = ?1; y = f(?1, a())"])
        self.assertEqual(parse_action("x := ?1; y := ?1"), (("x", 1), ("y", 1)))
        self.assertEqual(table_text(LOOP, table(LOOP)), "  0: x = ?1; y = ?2\n  1: x = ?1; y = f(?1)")

    def test_shell(self):
        shell = Shell()
        self.assertEqual(
            shell.run_all("put fork names x y z / points 2 / 0 -> 1: x := f(z); y := z / 0 -> 1: x := f(y)", "holds fork 1 x = f(y)",
                          "weakest fork 1 x = f(z)", "equal fork 1 x = f(y)", "status", "greatest fork 1 x"),
            ("ok", "yes", "x = ?1; y = ?2; z = ?2", "ok", "kept", "1"))
        self.assertEqual(
            shell.run_all("edge fork 0 -> 1: skip", "status", "failing fork 1 x = f(y)", "cheapest fork 1 g(f(x))", "undo 1", "state fork 1"),
            ("ok", "broken", "2", "g(f(x))", "ok", "x = f(?1); y = ?1; z = ?2"))


if __name__ == "__main__":
    unittest.main()
