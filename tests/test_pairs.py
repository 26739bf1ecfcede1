"""[15.3], [15.4], stage 15: the program of pairs, and whether two programs agree."""

import unittest

from tests.hand import FORK, LOOP, NAMES, all_runs, form, pattern, random_program
from tests.pairing import (
    SHORT, SHORT_LABELS, WRONG_LABELS, path_by_hand, random_pair, runs_with, values_side_by_side,
)
from tests.reference import STRANGE, different, matching, numbered, powers, random_values, rng, shared_form, tall
from tests.test_programs import WRONG_PROGRAMS
from termpaths.errors import InvalidOperation, InvalidPattern, InvalidProgram, TooLarge
from termpaths.models.models import failing_model, is_failing_model
from termpaths.optimizer.optimizer import labels_of
from termpaths.pairs import pairs as module
from termpaths.pairs.pairs import agree, agreement_paper, is_agreement_paper, paired, paired_entry
from termpaths.patterns.patterns import Pattern
from termpaths.programs.programs import is_program, make_program, program_from
from termpaths.programs.runs import end_of, state_after
from termpaths.tables.tables import is_closed, table

WRONG_OUTPUTS = (
    None, [], {}, "x", 0, True, ("x",), ((1, 1, "x"),), ((1, 1, "x", "x", "x"),), ([1, 1, "x", "x"],), ((2, 1, "x", "x"),),
    ((1, 3, "x", "x"),), ((-1, 1, "x", "x"),), ((True, 1, "x", "x"),), ((1, True, "x", "x"),), ((1, 1, "w", "x"),),
    ((1, 1, "x", "w"),), ((1, 1, "x", None),), ((1, 1, ["x"], "x"),), ((1, 1, "x", "x"), None), ((1, 1, "xl", "xr"),), (1, 1, "x", "x"),
    ((1, None, "x", "x"),), ((1, 1, "x", ("x",)),),
)


def side(values, letter):
    return {name + letter: values[name] for name in values}


def chain(length, names=("x",)):
    return program_from(names, tuple((k, (), k + 1) for k in range(length)))


class PairedTest(unittest.TestCase):
    def test_written(self):
        program, pairs = paired(FORK, SHORT, SHORT_LABELS)
        self.assertEqual(pairs, ((0, 0), (0, 2), (1, 1)))
        self.assertEqual(program[:2], (("xl", "xr", "yl", "yr", "zl", "zr"), 3))
        self.assertEqual(program[2], (
            (0, (("xl", ("f", "zl")), ("xr", ("f", "zr")), ("yl", "zl"), ("yr", "zr")), 2),
            (0, (), 1),
            (1, (("xl", ("f", "yl")), ("xr", ("f", "yr"))), 2),
        ))

    def test_equal_integers(self):
        first = make_program(("x", "y"), (0, (("x", 1), ("y", ("g", 2, 1))), 0))
        second = make_program(("x", "z"), (0, (("x", ("f", 2)), ("z", 1)), 0))
        program, _ = paired(first, second, (0,))
        self.assertEqual(program, (("xl", "xr", "yl", "zr"), 1, ((0, (("xl", 1), ("xr", ("f", 2)), ("yl", ("g", 2, 1)), ("zr", 1)), 0),)))
        self.assertIs(agree(first, second, (0,), ((0, 0, "x", "z"),)), False)
        start = Pattern(x=1, y=2)
        self.assertEqual(paired_entry(first, second, (0,), entry=start), Pattern(xl=1, xr=1, yl=2, zr=3))
        after = state_after(program, (0,), entry=paired_entry(first, second, (0,)))
        self.assertEqual(after, Pattern(xl=1, xr=("f", 2), yl=("g", 2, 1), zr=1))

    def test_order_of_points_and_edges(self):
        first = make_program(("x",), (0, (), 2), (2, (), 1), (1, (("x", ("a",)),), 0))
        second = make_program(("x",), (1, (("x", ("b",)),), 0), (0, (), 3), (3, (), 1), (0, (), 0), (2, (), 2))
        program, pairs = paired(first, second, (2, 0, 1, None, 0))
        self.assertEqual(pairs, ((0, 0), (1, 1), (2, 3)))
        self.assertEqual(program[2], ((0, (), 2), (0, (), 0), (1, (("xl", ("a",)), ("xr", ("b",))), 0), (2, (), 1)))

    def test_random(self):
        for seed in range(120):
            first, second, labels = random_pair(seed)
            program, pairs = paired(first, second, labels)
            self.assertIs(is_program(program), True)
            self.assertEqual(pairs, tuple(sorted({(u, v) for _, u, v in runs_with(first, second, labels, 6)})))
            self.assertEqual(program[1], len(pairs))
            order = [(pair, k) for pair in pairs for k, edge in enumerate(second[2]) if edge[0] == pair[1]]
            self.assertEqual([edge[0] for edge in program[2]], [pairs.index(pair) for pair, _ in order])
            # Behind each run stands what both programs have behind their runs.
            values = numbered(random_values(rng(seed), first[0], 2, 1)) if seed % 2 else None
            entry = None if values is None else pattern(values)
            begin = paired_entry(first, second, labels, entry=entry)
            for run, _ in all_runs(program, 3):
                ours = tuple(order[edge][1] for edge in run)
                left, right = values_side_by_side(first, second, labels, ours, values)
                state = state_after(program, run, entry=begin)
                self.assertEqual(form(state), shared_form({**side(left, "l"), **side(right, "r")}))
                theirs = tuple(labels[k] for k in ours if labels[k] is not None)
                self.assertEqual(pairs[end_of(program, run)], (path_by_hand(first, theirs), path_by_hand(second, ours)))

    def test_names(self):
        long = make_program(("abcdefg",), (0, (), 0))
        self.assertEqual(paired(long, long, (0,))[0][0], ("abcdefgl", "abcdefgr"))
        longer = make_program(("abcdefgh",), (0, (), 0))
        for first, second in ((long, longer), (longer, long), (longer, longer)):
            for call in (paired, paired_entry, lambda *parts: agree(*parts, ()), lambda *parts: agreement_paper(*parts, ()),
                         lambda *parts: is_agreement_paper(*parts, (), None)):
                with self.assertRaises(InvalidOperation):
                    call(first, second, (0,))
        five = make_program(tuple("abcde"), (0, (), 0))
        six = make_program(tuple("abcdef"), (0, (), 0))
        self.assertEqual(len(paired(five, five, (0,))[0][0]), 10)
        self.assertEqual(len(paired(make_program(("a",), (0, (), 0)), make_program(tuple("abcdefghi"), (0, (), 0)), (0,))[0][0]), 10)
        for first, second in ((five, six), (six, five)):
            with self.assertRaises(InvalidOperation):
                paired(first, second, (0,))

    def test_many_points_and_edges(self):
        self.assertEqual(paired(chain(59), chain(59), tuple(range(59)))[0][1], 60)
        calls = (paired, paired_entry, lambda *parts: agree(*parts, ()), lambda *parts: agreement_paper(*parts, ()),
                 lambda *parts: is_agreement_paper(*parts, (), None))
        for points, edges, limit in ((60, 60, None), (61, 60, 60), (60, 120, None), (60, 121, 120), (61, 121, 60), (59, 121, 120)):
            first, second, labels = many_pairs(points, edges)
            for call in calls:
                if limit is None:
                    call(first, second, labels)
                    continue
                with self.assertRaises(TooLarge) as caught:
                    call(first, second, labels)
                self.assertEqual(caught.exception.limit, limit)
            if limit is None:
                program, pairs = paired(first, second, labels)
                self.assertEqual((program[1], len(pairs), len(program[2])), (points, points, edges))

    def test_errors_in_order(self):
        # A second program that does not follow, then names, then points.
        first, second, labels = many_pairs(61, 60)
        names = tuple("abcdefghij")
        great = program_from(names, second[2], size=second[1])
        for call in (paired, lambda *parts: agree(*parts, ()), lambda *parts: is_agreement_paper(*parts, (), None)):
            with self.assertRaises(InvalidOperation):
                call(first, great, labels)
            with self.assertRaises(InvalidOperation):
                call(first, second, (None,) * len(labels))
            with self.assertRaises(TooLarge):
                call(first, second, labels)
        # The entry is looked at before them.
        for call in (lambda entry: paired_entry(first, second, labels, entry=entry), lambda entry: agree(first, second, labels, (), entry=entry),
                     lambda entry: agreement_paper(first, second, labels, (), entry=entry),
                     lambda entry: is_agreement_paper(first, second, labels, (), None, entry=entry)):
            for value in STRANGE + (Pattern(y=1), Pattern(x=1, y=2), Pattern(xl=1, xr=1)):
                if value is not None and value != Pattern(x=1):
                    with self.assertRaises(InvalidPattern):
                        call(value)

    def test_programs_and_labels(self):
        for call in (paired, paired_entry, lambda *parts: agree(*parts, None, entry=0), lambda *parts: agreement_paper(*parts, None, entry=0),
                     lambda *parts: is_agreement_paper(*parts, None, None, entry=0)):
            for value in STRANGE + WRONG_PROGRAMS:
                with self.assertRaises(InvalidProgram):
                    call(value, None, None)
                with self.assertRaises(InvalidProgram):
                    call(value, SHORT, SHORT_LABELS)
                with self.assertRaises(InvalidProgram):
                    call(FORK, value, None)
            for value in WRONG_LABELS:
                with self.assertRaises(InvalidOperation):
                    call(FORK, SHORT, value)

    def test_outputs(self):
        for value in WRONG_OUTPUTS:
            for call in (agree, agreement_paper, lambda *parts, entry=None: is_agreement_paper(*parts, None, entry=entry)):
                with self.assertRaises(InvalidOperation):
                    call(FORK, SHORT, SHORT_LABELS, value, entry=0)

    def test_defined_there(self):
        for name in ("paired", "paired_entry", "agree", "agreement_paper", "is_agreement_paper"):
            self.assertEqual(getattr(module, name).__module__, "termpaths.pairs.pairs")


def many_pairs(points, edges):
    """Return a first program, a second one and labels with so many points and edges in the program of pairs.

    From both ends of the one edge with a label the second program walks on along a chain, which is met twice.
    """
    half = (points - 2) // 2
    made = [(0, (), 1), (0, (), 2), (1, (), 2)] + [(k + 2, (), k + 3) for k in range(half - 1)]
    labels = [0] + [None] * (len(made) - 1)
    if points % 2:
        made.append((0, (), half + 2))
        labels.append(None)
    more = edges - (3 + 2 * (half - 1) + points % 2)
    made += [(0, (), 0)] * more
    labels += [None] * more
    return make_program(("x",), (0, (), 1)), program_from(("x",), tuple(made)), tuple(labels)


class EntryTest(unittest.TestCase):
    def test_written(self):
        first = make_program(("x", "y"), (0, (), 0))
        second = make_program(("w", "y", "z"), (0, (), 0))
        self.assertEqual(paired_entry(first, second, (0,)), Pattern(wr=1, xl=2, yl=3, yr=3, zr=4))
        entry = Pattern(x=("f", 1), y=("g", 1, 2))
        self.assertEqual(paired_entry(first, second, (0,), entry=entry), Pattern(wr=3, xl=("f", 1), yl=("g", 1, 2), yr=("g", 1, 2), zr=4))
        self.assertEqual(paired_entry(second, first, (0,)), Pattern(wl=1, xr=2, yl=3, yr=3, zl=4))
        self.assertEqual(paired_entry(FORK, SHORT, SHORT_LABELS, entry=None), Pattern(xl=1, xr=1, yl=2, yr=2, zl=3, zr=3))

    def test_weights(self):
        first = make_program(("x",), (0, (), 0))
        second = make_program(("x", "y"), (0, (), 0))
        great = powers(x=498)
        self.assertEqual(paired_entry(first, second, (0,), entry=great).weight, 500)
        greater = powers(x=499)
        self.assertEqual(paired_entry(first, first, (0,), entry=greater).weight, 500)
        for call in (paired_entry, lambda *parts, entry: agree(*parts, (), entry=entry), lambda *parts, entry: agreement_paper(*parts, (), entry=entry)):
            with self.assertRaises(TooLarge) as caught:
                call(first, second, (0,), entry=greater)
            self.assertEqual(caught.exception.limit, 500)
        # A table of smaller patterns can cover what is too great.
        free = {0: Pattern(xl=1, xr=1, yr=2)}
        outputs = ((0, 0, "x", "x"),)
        self.assertIs(is_agreement_paper(first, second, (0,), outputs, ("agree", free), entry=greater), True)
        self.assertIs(is_agreement_paper(first, second, (0,), ((0, 0, "x", "y"),), ("differ", (), 0), entry=greater), True)
        self.assertIs(is_agreement_paper(first, second, (0,), outputs, ("differ", (), 0), entry=greater), False)
        self.assertIs(is_agreement_paper(first, second, (0,), outputs, ("agree", {0: Pattern(xl=1, xr=1, yr=1)}), entry=greater), False)


class AgreeTest(unittest.TestCase):
    def test_written(self):
        self.assertIs(agree(FORK, SHORT, SHORT_LABELS, ((1, 1, "x", "x"),)), True)
        paper = agreement_paper(FORK, SHORT, SHORT_LABELS, ((1, 1, "x", "z"),))
        self.assertEqual(paper, ("differ", (0,), 0))
        self.assertEqual(agreement_paper(FORK, SHORT, SHORT_LABELS, ())[0], "agree")

    def test_not_only_the_last_point(self):
        # Both agree at their last points, and not at the points before.
        first = make_program(("x",), (0, (("x", ("f", "x")),), 1), (1, (("x", ("a",)),), 2))
        second = make_program(("x",), (0, (), 1), (1, (("x", ("a",)),), 2))
        self.assertIs(agree(first, second, (0, 1), ((2, 2, "x", "x"),)), True)
        self.assertIs(agree(first, second, (0, 1), ((2, 2, "x", "x"), (0, 0, "x", "x"))), True)
        self.assertEqual(agreement_paper(first, second, (0, 1), ((2, 2, "x", "x"), (1, 1, "x", "x"))), ("differ", (0,), 1))

    def test_pairs_that_are_not_met(self):
        outputs = tuple((u, v, e, f) for u in range(2) for v in range(3) for e in NAMES for f in NAMES)
        met = ((0, 0), (0, 2), (1, 1))
        for output in outputs:
            if output[:2] not in met:
                self.assertIs(agree(FORK, SHORT, SHORT_LABELS, (output,)), True)
                for run in ((), (0,), (1,), (1, 2)):
                    self.assertIs(is_agreement_paper(FORK, SHORT, SHORT_LABELS, (output,), ("differ", run, 0)), False)
        self.assertIs(agree(FORK, SHORT, SHORT_LABELS, tuple(one for one in outputs if one[:2] not in met)), True)
        self.assertIs(agree(FORK, SHORT, SHORT_LABELS, outputs), False)

    def test_entry(self):
        second = make_program(NAMES, (0, (("x", ("f", "y")),), 1), (0, (("x", ("f", "y")),), 1))
        outputs = ((1, 1, "x", "x"), (1, 1, "y", "y"))
        self.assertIs(agree(FORK, second, (0, 1), outputs), False)
        self.assertIs(agree(FORK, second, (0, 1), outputs, entry=Pattern(x=1, y=2, z=2)), True)
        self.assertIs(agree(FORK, second, (0, 1), outputs, entry=Pattern(x=2, y=2, z=1)), False)
        paper = agreement_paper(FORK, second, (0, 1), outputs, entry=Pattern(x=1, y=2, z=2))
        self.assertIs(is_agreement_paper(FORK, second, (0, 1), outputs, paper, entry=Pattern(x=1, y=2, z=2)), True)
        self.assertIs(is_agreement_paper(FORK, second, (0, 1), outputs, paper), False)
        self.assertIs(is_agreement_paper(FORK, second, (0, 1), outputs, paper, entry=Pattern(x=("a",), y=("b",), z=("b",))), True)

    def test_random(self):
        kinds = {}
        for seed in range(150):
            one = rng(seed)
            first, second, labels = random_pair(seed)
            values = numbered(random_values(one, first[0], 2, 1)) if seed % 2 else None
            entry = None if values is None else pattern(values)
            everything = [(run, u, v, *values_side_by_side(first, second, labels, run, values)) for run, u, v in runs_with(first, second, labels, 4)]
            outputs = tuple((one.randrange(first[1]), one.randrange(second[1]), one.choice("xy"), one.choice("xy")) for _ in range(one.randrange(1, 4)))
            paper = agreement_paper(first, second, labels, outputs, entry=entry)
            kinds[paper[0]] = kinds.get(paper[0], 0) + 1
            self.assertIs(agree(first, second, labels, outputs, entry=entry), paper[0] == "agree")
            self.assertIs(is_agreement_paper(first, second, labels, outputs, paper, entry=entry), True)
            for run, u, v, left, right in everything:
                for index, (here, there, e, f) in enumerate(outputs):
                    differ = (here, there) == (u, v) and left[e] != right[f]
                    self.assertIs(is_agreement_paper(first, second, labels, outputs, ("differ", run, index), entry=entry), differ)
                    if differ:
                        self.assertEqual(paper[0], "differ")
            if paper[0] == "differ":
                left, right = values_side_by_side(first, second, labels, paper[1], values)
                self.assertNotEqual(left[outputs[paper[2]][2]], right[outputs[paper[2]][3]])
                program, pairs = paired(first, second, labels)
                begin = paired_entry(first, second, labels, entry=entry)
                found = table(program, entry=begin)
                self.assertIs(is_agreement_paper(first, second, labels, outputs, ("agree", found), entry=entry), False)
        self.assertTrue(min(kinds.values()) > 20 and len(kinds) == 2, kinds)

    def test_models(self):
        """What differs in the program of pairs is shown by a model."""
        program, pairs = paired(FORK, SHORT, SHORT_LABELS)
        begin = paired_entry(FORK, SHORT, SHORT_LABELS)
        for edge, e, f in ((0, "xl", "zr"), (1, "xl", "yr"), (0, "yl", "xr")):
            run = (0,) if edge == 0 else (1, 2)
            model = failing_model(program, run, e, f, entry=begin)
            self.assertIs(is_failing_model(program, run, e, f, model, entry=begin), True)
        with self.assertRaises(InvalidOperation):
            failing_model(program, (0,), "xl", "xr", entry=begin)


class PapersTest(unittest.TestCase):
    def setUp(self):
        self.outputs = ((1, 1, "x", "x"), (0, 2, "y", "y"), (1, 0, "x", "z"))
        self.program, self.pairs = paired(FORK, SHORT, SHORT_LABELS)
        self.begin = paired_entry(FORK, SHORT, SHORT_LABELS)
        self.table = table(self.program, entry=self.begin)

    def judge(self, value, outputs=None):
        return is_agreement_paper(FORK, SHORT, SHORT_LABELS, self.outputs if outputs is None else outputs, value)

    def test_tables(self):
        self.assertIs(self.judge(("agree", self.table)), True)
        # A closed table of more general patterns is enough, if it gives the names the same values.
        wider = {**self.table, 2: Pattern(xl=("f", 1), xr=("f", 1), yl=2, yr=2, zl=3, zr=3)}
        self.assertIs(is_closed(self.program, wider, entry=self.begin), True)
        self.assertIs(self.judge(("agree", wider)), True)
        widest = {k: Pattern.free(*self.program[0]) for k in range(3)}
        self.assertIs(self.judge(("agree", widest)), False)
        self.assertIs(self.judge(("agree", widest), ((1, 0, "x", "z"), (1, 2, "x", "y"))), True)
        # The table is not closed, does not cover the beginning, or is no table.
        tighter = {**self.table, 2: Pattern(xl=("f", 1), xr=("f", 1), yl=1, yr=1, zl=1, zr=1)}
        self.assertIs(self.judge(("agree", tighter)), False)
        for found in ({}, {0: self.table[0]}, {k: self.table[k] for k in (1, 2)}, {**self.table, 3: self.table[0]}, {**self.table, 1: None}, None,
                      (0, 1), {**self.table, 0: Pattern(xl=1, xr=1, yl=1, yr=1, zl=3, zr=3)}, {**self.table, 0: Pattern(x=1, y=2, z=3)}):
            self.assertIs(self.judge(("agree", found)), False)
        self.assertIs(self.judge(("agree", self.table, 0)), False)
        for value in (["agree", self.table], ("Agree", self.table), ("table", self.table), (None, self.table), ("differ", self.table)):
            self.assertIs(self.judge(value), False)

    def test_more_than_the_table_of_the_program(self):
        """A table that fits no run at a point has to fit the edges that the table itself asks for."""
        first = make_program(("x", "y"), (0, (("x", "y"),), 0), (0, (), 1))
        outputs = ((1, 1, "x", "x"),)
        found = agreement_paper(first, first, (0, 1), outputs)
        self.assertEqual(found[0], "agree")
        for point, name in ((0, "xr"), (1, "xl"), (0, "yl")):
            changed = found[1][point].after(((name, 1),))
            self.assertIs(is_agreement_paper(first, first, (0, 1), outputs, ("agree", {**found[1], point: changed})), False)

    def test_runs(self):
        outputs = ((1, 1, "x", "z"), (1, 1, "y", "z"), (1, 0, "x", "z"))
        for value, good in ((("differ", (0,), 0), True), (("differ", (1, 2), 0), True), (("differ", (0,), 1), False), (("differ", (1, 2), 1), True),
                            (("differ", (0,), 2), False), (("differ", (0,), 3), False), (("differ", (0,), -1), False), (("differ", (0,), True), False),
                            (("differ", (), 0), False), (("differ", (1,), 0), False), (("differ", (2,), 0), False), (("differ", [0], 0), False),
                            (("differ", (0, 0), 0), False), (("differ", (False,), 0), False), (("differ", (None,), 0), False), (("differ", None, 0), False),
                            (("differ", (0,)), False), (("differ", (0,), 0, 0), False), (("agree", (0,)), False), (("differ", ((0,),), 0), False),
                            (("differ", ({},), 0), False), (("differ", (3,), 0), False), (("differ", (-3,), 0), False), (("Differ", (0,), 0), False)):
            self.assertIs(self.judge(value, outputs), good)
        for value in STRANGE:
            self.assertIs(self.judge(value), False)

    def test_points_that_no_run_reaches(self):
        # The second program has edges that no run passes, ahead of those that runs pass.
        second = make_program(("x",), (2, (), 2), (2, (), 0), (2, (), 1), (0, (("x", ("b",)),), 1), size=3)
        first = make_program(("x",), (0, (("x", ("a",)),), 1))
        labels = (None, 0, None, 0)
        outputs = ((1, 1, "x", "x"),)
        self.assertEqual(agreement_paper(first, second, labels, outputs), ("differ", (3,), 0))
        self.assertIs(is_agreement_paper(first, second, labels, outputs, ("differ", (3,), 0)), True)
        for run in ((0,), (1,), (2,), (0, 3), (4,)):
            self.assertIs(is_agreement_paper(first, second, labels, outputs, ("differ", run, 0)), False)

    def test_long_runs(self):
        first = make_program(("x", "y"), (0, (("x", "y"), ("y", "x")), 0), (0, (), 1))
        second = make_program(("x", "y"), (0, (), 0), (0, (), 1))
        outputs = ((1, 1, "y", "y"), (1, 1, "x", "x"))
        for times in (0, 1, 2, 199, 200, 900, 901, 5000):
            for index in (0, 1):
                value = ("differ", (0,) * times + (1,), index)
                self.assertIs(is_agreement_paper(first, second, (0, 1), outputs, value), times % 2 == 1)
        grow = make_program(("x",), (0, (("x", ("d", "x", "x")),), 0))
        other = make_program(("x",), (0, (("x", ("d", "x", ("d", "x", "x"))),), 0))
        self.assertIs(is_agreement_paper(grow, other, (0,), ((0, 0, "x", "x"),), ("differ", (0,) * 700, 0)), True)
        self.assertIs(is_agreement_paper(grow, grow, (0,), ((0, 0, "x", "x"),), ("differ", (0,) * 700, 0)), False)

    def test_reads(self):
        # An edge that is passed twice reads another value each time, and both programs read it together.
        first = make_program(("x", "y"), (0, (("x", 1),), 0), (0, (("y", "x"),), 0))
        self.assertIs(agree(first, first, (0, 1), ((0, 0, "x", "x"), (0, 0, "y", "y"))), True)
        self.assertEqual(agreement_paper(first, first, (0, 1), ((0, 0, "x", "y"),))[0], "differ")
        later = make_program(("x", "y"), (0, (), 1), (1, (("x", 1),), 0), (0, (("y", "x"),), 0))
        self.assertEqual(agreement_paper(first, later, (0, None, 1), ((0, 0, "x", "x"),))[0], "differ")

    def test_results_that_the_caller_changes(self):
        paper = agreement_paper(FORK, SHORT, SHORT_LABELS, self.outputs)
        del paper[1][0]
        again = agreement_paper(FORK, SHORT, SHORT_LABELS, self.outputs)
        self.assertEqual(sorted(again[1]), [0, 1, 2])
        self.assertIs(self.judge(paper), False)

    def test_great_values(self):
        # The table of the program of pairs is too great: no paper is made, and what is judged raises no error.
        counter = [0]
        first = make_program(("x",), (0, (("x", different(40, counter)),), 1), (1, (("x", tall(7)),), 1), (1, (), 2))
        steps = program_from(("x",), tuple((k, (("x", tall(7)),), k + 1) for k in range(40)) + ((40, (), 41),), size=42)
        labels = tuple(range(41))
        entry = powers(x=440)
        with self.assertRaises(TooLarge):
            agree(steps, steps, labels, ((41, 41, "x", "x"),), entry=entry)
        self.assertIs(is_agreement_paper(steps, steps, labels, ((41, 41, "x", "x"),), ("differ", labels, 0), entry=entry), False)
        free = {k: Pattern(xl=1, xr=1) for k in range(42)}
        self.assertIs(is_agreement_paper(steps, steps, labels, ((41, 41, "x", "x"),), ("agree", free), entry=entry), True)
        self.assertIs(agree(first, first, (0, 1, 2), ((2, 2, "x", "x"),)), True)

    def test_loop(self):
        self.assertIs(agree(LOOP, LOOP, labels_of(LOOP), ((1, 1, "x", "x"), (1, 1, "y", "y"))), True)
        paper = agreement_paper(LOOP, LOOP, labels_of(LOOP), ((1, 1, "x", "y"),))
        self.assertEqual(paper, ("differ", (0,), 0))
        # What differs only behind some rounds.
        first = random_program(3, points=2, edges=3)
        self.assertIs(agree(first, first, labels_of(first), tuple((u, u, name, name) for u in range(2) for name in NAMES)), True)
        self.assertIsNone(matching({"x": ("a",)}, {"x": ("b",)}))


if __name__ == "__main__":
    unittest.main()
