"""[0.17]: one program through all parts, and the same answers wherever they are asked for."""

import unittest

from tests.hand import NAMES, pattern, random_program
from tests.reference import random_values, rng
from termpaths.bounds.cheapest import cheapest_steps, is_cheapest_steps
from termpaths.bounds.heights import greatest_height, height_after, heights
from termpaths.conditions.conditions import weakest
from termpaths.errors import Broken, InvalidOperation
from termpaths.models.models import failing_model, is_failing_model
from termpaths.optimizer.optimizer import labels_of, need_paper, needed, optimized, program_cost
from termpaths.pairs.following import following_paper, follows, is_following_paper
from termpaths.pairs.pairs import agree, agreement_paper, is_agreement_paper, paired, paired_entry
from termpaths.patterns.patterns import Pattern
from termpaths.programs.programs import reached_points, renamed_program, renumbered
from termpaths.programs.runs import end_of, state_after
from termpaths.programs.statements import statement_program
from termpaths.questions.equalities import equality_paper, holds, is_equality_paper
from termpaths.questions.failing import shortest_failing
from termpaths.store.store import Store, StrictStore
from termpaths.tables.tables import is_closed, table
from termpaths.text.formats import format_pattern, format_program, parse_program
from termpaths.text.shell import Shell
from termpaths.text.tables import table_text

# x and y go on together; z is computed on both ways, and once more at the end.
STATEMENT = ("seq", ("do", (("x", ("a",)), ("y", ("f", ("a",))))), ("repeat", ("do", (("x", ("f", "x")), ("y", ("f", "y"))))), ("mark", "loop"),
             ("choose", ("do", (("z", ("g", ("f", "x"))),)), ("seq", ("do", (("w", "y"),)), ("do", (("z", ("g", "w")),)))), ("do", (("v", ("g", ("f", "x"))),)), ("mark", "end"))
VARIABLES = ("v", "w", "x", "y", "z")


class WholeTest(unittest.TestCase):
    def test_one_program(self):
        program, marks = statement_program(VARIABLES, STATEMENT)
        end, loop = marks["end"], marks["loop"]
        outputs = ((end, "v"), (end, "z"))
        self.assertEqual(parse_program(format_program(program)), program)
        self.assertIs(holds(program, end, "v", "z"), True)
        self.assertIs(holds(program, loop, "y", ("f", "x")), True)
        self.assertIs(holds(program, end, "w", "y"), False)
        lines = table_text(program, table(program)).split("\n")
        self.assertEqual(len(lines), len(reached_points(program)))
        # The store with its assertions, one of which is not kept.
        store = Store()
        self.assertEqual(store.apply(("put", "old", program), ("optimize", "old", "new", outputs)), 1)
        same = tuple((u, u, name, name) for u, name in outputs)
        store.apply(("assert", ("equal", "old", end, "v", "z")), ("assert", ("agree", "old", "new", labels_of(program), same)), ("assert", ("shape", "new", end, Pattern(v=("g", ("f", 1)), z=2))),
                    ("assert", ("height", "old", end, "v", 60)))
        new = store["new"]
        self.assertEqual(new, optimized(program, outputs))
        self.assertLess(program_cost(new), program_cost(program))
        self.assertIs(agree(program, new, labels_of(program), same), True)
        self.assertEqual([store.status(k)[0] for k in range(4)], ["kept", "kept", "kept", "broken"])
        run = store.status(3)[1]
        self.assertEqual(end_of(program, run), end)
        self.assertGreater(height_after(program, run, "v"), 60)
        self.assertIs(greatest_height(program, end, "v"), None)
        # An edit that breaks what is asserted is undone again.
        store.apply(("edge", "old", (loop, (("v", "x"),), end)))
        self.assertEqual([index for index, _ in store.broken()], [0, 1, 3])
        kind, paper = store.status(1)
        self.assertEqual((kind, paper[0]), ("broken", "stuck"))
        self.assertIs(is_following_paper(store["old"], store["new"], labels_of(program), paper), True)
        shell = Shell()
        shell.store.apply(*[("put", name, store[name]) for name in store.programs])
        shell.run(f"equal old {end} v = z")
        self.assertEqual(shell.run("status"), "broken")
        self.assertEqual(shell.run(f"failing old {end} v = z"), " ".join(str(edge) for edge in store.status(0)[1]))
        store.undo()
        shell.run_all("undo 1", f"cut old {len(program[2])}", f"equal old {end} v = z")
        self.assertEqual(shell.run_all("status", f"state old {end}"), ("kept", format_pattern(table(program)[end])))
        self.assertEqual(store["old"], shell.store["old"])

    def test_strict(self):
        program, marks = statement_program(VARIABLES, STATEMENT)
        end = marks["end"]
        outputs = ((end, "v"), (end, "z"))
        store = StrictStore()
        store.apply(("put", "old", program), ("optimize", "old", "new", outputs),
                    ("assert", ("agree", "old", "new", labels_of(program), tuple((u, u, name, name) for u, name in outputs))))
        for index in range(len(program[2])):
            with self.assertRaises((Broken, InvalidOperation)):
                store.apply(("edge", "old", program[2][index]), ("edge", "old", (0, (), end)))
            # An edge of the second program is taken out: the labels do not fit any more.
            with self.assertRaises(InvalidOperation):
                store.apply(("cut", "new", index))
        self.assertEqual(store.apply(("rename", "old", "first")), 2)
        self.assertEqual(store.status(0), ("kept",))

    def test_every_equality_has_one_paper(self):
        """Kept or broken: a table or a run, a model of the run, and the weakest condition."""
        for seed in range(60):
            one = rng(seed)
            program = random_program(seed, points=3, edges=4)
            values = random_values(one, NAMES, 2, 1) if seed % 2 else None
            entry = None if values is None else pattern(values)
            store = Store()
            store.apply(("put", "p", program), ("enter", "p", entry))
            for point in range(3):
                e, f = one.choice(("x", ("f", "y"))), one.choice(("z", ("f", "x"), "y"))
                store.apply(("assert", ("equal", "p", point, e, f)))
                told = store.status(0)
                paper = equality_paper(program, point, e, f, entry=entry)
                self.assertIs(is_equality_paper(program, point, e, f, paper, entry=entry), True)
                self.assertEqual(told[0] == "kept", paper[0] == "table")
                condition = weakest(program, point, (e, f))
                start = Pattern.free(*NAMES) if entry is None else entry
                self.assertEqual(told[0] == "kept", condition is not None and start <= condition)
                if told[0] == "broken":
                    model = failing_model(program, told[1], e, f, entry=entry)
                    self.assertIs(is_failing_model(program, told[1], e, f, model, entry=entry), True)
                store.apply(("drop", 0))

    def test_pairs_of_pairs(self):
        """The program of pairs is a program as all others: questions, papers and models are asked of it."""
        for seed in range(40):
            program = random_program(seed, names=("x", "y"), points=2, edges=3)
            outputs = ((1, "x"),)
            other = optimized(program, outputs)
            labels = labels_of(program)
            both, pairs = paired(program, other, labels)
            begin = paired_entry(program, other, labels)
            self.assertEqual(pairs, tuple((u, u) for u in reached_points(program)))
            self.assertIs(is_closed(both, table(both, entry=begin), entry=begin), True)
            for point, (u, _) in enumerate(pairs):
                for e in program[0]:
                    for f in other[0]:
                        paper = agreement_paper(program, other, labels, ((u, u, e, f),))
                        self.assertIs(is_agreement_paper(program, other, labels, ((u, u, e, f),), paper), True)
                        self.assertEqual(holds(both, point, e + "l", f + "r", entry=begin), paper[0] == "agree")
                        run = shortest_failing(both, point, e + "l", f + "r", entry=begin)
                        self.assertEqual(run is None, paper[0] == "agree")
                        if run is not None:
                            model = failing_model(both, run, e + "l", f + "r", entry=begin)
                            self.assertIs(is_failing_model(both, run, e + "l", f + "r", model, entry=begin), True)
            # Heights stay what they are on both sides, if nothing is removed.
            found = heights(both, entry=begin)
            for point, (u, _) in enumerate(pairs):
                for name in program[0]:
                    self.assertEqual(found[point][name + "l"], heights(program)[u][name])

    def test_renamed_and_renumbered(self):
        for seed in range(40):
            one = rng(seed)
            program = random_program(seed, points=3, edges=4)
            outputs = ((2, "x"), (1, "z"))
            points = [0] + one.sample([1, 2], 2)
            moved = renumbered(program, tuple(points))
            goals = tuple((points[u], name) for u, name in outputs)
            self.assertEqual(needed(moved, goals), tuple(sorted((points[u], name) for u, name in needed(program, outputs))))
            self.assertEqual(optimized(moved, goals), renumbered(optimized(program, outputs), tuple(points)))
            changes = {"x": "p", "y": "q", "z": "r"}
            renamed = renamed_program(program, **changes)
            self.assertEqual(optimized(renamed, tuple((u, changes[name]) for u, name in outputs)), renamed_program(optimized(program, outputs), **changes))
            for u in range(3):
                for name in NAMES:
                    self.assertEqual(need_paper(renamed, tuple((v, changes[other]) for v, other in outputs), u, changes[name])[0], need_paper(program, outputs, u, name)[0])
            labels = labels_of(program)
            self.assertIs(follows(program, moved, labels), True)
            self.assertEqual(following_paper(program, moved, labels)[1], tuple((u, points[u]) for u in reached_points(program)))
            same = tuple((u, points[u], name, name) for u in range(3) for name in NAMES)
            self.assertIs(agree(program, moved, labels, same), True)

    def test_cheapest_steps_of_a_table(self):
        program, marks = statement_program(VARIABLES, STATEMENT)
        known = table(program)[marks["end"]]
        steps = cheapest_steps(known, ("h", ("g", ("f", "x")), ("f", "y")), ("g", "y"))
        self.assertEqual(steps, (("f", "y"), ("h", "v", 1)))
        self.assertIs(is_cheapest_steps(known, (("h", "z", ("f", "y")),), steps), True)
        self.assertEqual(state_after(program, (0,))["x"], ("a",))


if __name__ == "__main__":
    unittest.main()
