"""[15.1], [15.2], stage 15: whether a program follows another one."""

import unittest

from tests.hand import FORK, LOOP, all_runs
from tests.pairing import (
    SHORT, SHORT_LABELS, WRONG_LABELS, follows_by_hand, labels_on, lost_by_hand, path_by_hand, random_pair, runs_with,
    stuck_by_hand, unrolled,
)
from tests.reference import STRANGE, rng
from tests.test_programs import WRONG_PROGRAMS
from termpaths.errors import InvalidOperation, InvalidProgram
from termpaths.optimizer.optimizer import labels_of
from termpaths.pairs import following as module
from termpaths.pairs.following import follows, following_paper, is_following_paper
from termpaths.programs.programs import make_program, program_from, renumbered


def paper_by_hand(first, second, labels, paper):
    """Tell whether a paper is one, by the words of [15.2]."""
    if paper[0] == "lost":
        return lost_by_hand(first, second, labels, paper[1])
    if paper[0] == "stuck":
        return stuck_by_hand(first, second, labels, *paper[1:])
    pairs = paper[1]
    settled = {(0, 0)}
    for u, v in pairs:
        for k, (begin, _, w) in enumerate(second[2]):
            if begin == v and labels[k] is None and (u, w) not in pairs:
                return False
            if begin == v and labels[k] is not None:
                edge = first[2][labels[k]]
                if edge[0] != u or (edge[2], w) not in pairs:
                    return False
                settled.add((edge[2], w))
    good = list(pairs) == sorted(set(pairs)) and (0, 0) in pairs
    return good and all(can_follow(first, second, labels, u, v) for u, v in settled)


def can_follow(first, second, labels, u, v):
    """Tell whether each edge of the first program from u can be followed from v, by walks without labels."""
    reached, todo = {v}, [v]
    while todo:
        here = todo.pop()
        for k, (begin, _, end) in enumerate(second[2]):
            if begin == here and labels[k] is None and end not in reached:
                reached.add(end)
                todo.append(end)
    found = {labels[k] for k, edge in enumerate(second[2]) if edge[0] in reached}
    return all(k in found for k, edge in enumerate(first[2]) if edge[0] == u)


class FollowsTest(unittest.TestCase):
    def test_written(self):
        self.assertEqual(
            [follows(FORK, SHORT, (0, None, 1)), following_paper(FORK, SHORT, (0, 1, 1))[0],
             following_paper(FORK, SHORT, (0, None, None))[0]],
            [True, "lost", "stuck"])
        self.assertEqual(following_paper(FORK, SHORT, (0, None, 1)), ("follows", ((0, 0), (0, 2), (1, 1))))

    def test_programs_that_follow(self):
        for program in (FORK, LOOP, SHORT, make_program(("x",)), make_program(("x",), (0, (), 0), (0, (), 0))):
            self.assertIs(follows(program, program, labels_of(program)), True)
            # The edges in another order, each one twice, or with a point ahead.
            size, edges = program[1], program[2]
            back = program_from(program[0], edges[::-1], size=size)
            self.assertIs(follows(program, back, labels_of(program)[::-1]), True)
            twice = program_from(program[0], edges + edges, size=size)
            self.assertIs(follows(program, twice, labels_of(program) * 2), True)
            ahead = program_from(program[0], ((0, (), 1),) + tuple((u + 1, action, v + 1) for u, action, v in edges), size=size + 1)
            self.assertIs(follows(program, ahead, (None,) + labels_of(program)), True)

    def test_edges_without_label(self):
        first = make_program(("x",), (0, (("x", ("f", "x")),), 1))
        # A circle of edges without label on the way; it can also be left out.
        second = make_program(("x",), (0, (), 2), (2, (), 0), (2, (), 2), (2, (("x", ("f", "x")),), 1), (1, (), 1))
        self.assertIs(follows(first, second, (None, None, None, 0, None)), True)
        self.assertIs(follows(first, second, (None, None, None, None, None)), False)
        # A way without labels that leads nowhere is no fault: the edge can be followed from the settled pair.
        second = make_program(("x",), (0, (), 2), (0, (("x", ("f", "x")),), 1))
        self.assertEqual(following_paper(first, second, (None, 0)), ("follows", ((0, 0), (0, 2), (1, 1))))

    def test_equal_edges(self):
        first = make_program(("x",), (0, (), 0), (0, (), 0))
        self.assertIs(follows(first, first, (0, 1)), True)
        self.assertIs(follows(first, first, (1, 0)), True)
        self.assertEqual(following_paper(first, first, (0, 0)), ("stuck", (), 1))
        self.assertEqual(following_paper(first, first, (1, 1)), ("stuck", (), 0))

    def test_one_edge_otherwise(self):
        first = make_program(("x",), (0, (), 1), (1, (), 0))
        self.assertIs(follows(first, first, (0, 1)), True)
        self.assertEqual(following_paper(first, first, (1, 0))[0], "lost")
        self.assertEqual(following_paper(first, first, (0, 0))[0], "lost")
        for paper in (("stuck", (0,), 1), ("lost", (0, 1, 0))):
            self.assertIs(is_following_paper(first, first, (0, None), paper), True)
        self.assertEqual(following_paper(first, first, (None, 1))[0], "lost")
        self.assertEqual(following_paper(first, first, (None, None)), ("stuck", (), 0))
        other = make_program(("x",), (0, (), 1), (1, (), 1))
        self.assertEqual(following_paper(first, other, (0, 1))[0], "lost")
        self.assertEqual(following_paper(first, make_program(("x",)), ())[0], "stuck")
        self.assertIs(follows(make_program(("x",)), make_program(("x",)), ()), True)
        self.assertIs(follows(make_program(("x",)), make_program(("x", "y"), (0, (), 1), (1, (), 0)), (None, None)), True)
        # Edges that no run passes need not be followed, and may have any label.
        far = make_program(("x",), (0, (), 1), (2, (), 3))
        self.assertIs(follows(far, make_program(("x",), (0, (), 1), (2, (), 2)), (0, 1)), True)
        self.assertIs(follows(far, make_program(("x",), (0, (), 1), (2, (), 2)), (0, 0)), True)

    def test_random(self):
        kinds = {}
        for seed in range(300):
            first, second, labels = random_pair(seed, follow=seed % 3 == 0)
            paper = following_paper(first, second, labels)
            kinds[paper[0]] = kinds.get(paper[0], 0) + 1
            self.assertIs(paper_by_hand(first, second, labels, paper), True)
            self.assertIs(is_following_paper(first, second, labels, paper), True)
            self.assertIs(follows(first, second, labels), paper[0] == "follows")
            if seed % 3 == 0:
                self.assertEqual(paper[0], "follows")
            if paper[0] == "follows":
                self.assertIs(follows_by_hand(first, second, labels, 3), True)
                self.assertTrue({(u, v) for _, u, v in runs_with(first, second, labels, 4)} <= set(paper[1]))
        self.assertEqual(sorted(kinds), ["follows", "lost", "stuck"])
        self.assertTrue(min(kinds.values()) > 20, kinds)

    def test_each_run_has_one_that_goes_with_it(self):
        for seed in range(40):
            first, second, labels = random_pair(seed)
            found = {labels_on(labels, run) for run, _ in all_runs(second, 6)}
            for run, _ in all_runs(first, 3):
                self.assertIn(run, found)

    def test_renumbered(self):
        for seed in range(60):
            first, second, labels = random_pair(seed, follow=seed % 2 == 0)
            one = rng(seed)
            points = [0] + one.sample(range(1, second[1]), second[1] - 1)
            others = [0] + one.sample(range(1, first[1]), first[1] - 1)
            moved = (renumbered(first, tuple(others)), renumbered(second, tuple(points)), labels)
            self.assertIs(follows(*moved), follows(first, second, labels))
            paper = following_paper(first, second, labels)
            if paper[0] != "follows":
                self.assertIs(is_following_paper(*moved, paper), True)


class PapersTest(unittest.TestCase):
    def test_pairs(self):
        good = ((0, 0), (0, 2), (1, 1))
        judge = lambda value: is_following_paper(FORK, SHORT, SHORT_LABELS, value)
        self.assertIs(judge(("follows", good)), True)
        # More pairs than are met, from which no edge leads on.
        self.assertIs(judge(("follows", ((0, 0), (0, 1), (0, 2), (1, 1)))), True)
        self.assertIs(judge(("follows", ((0, 0), (0, 2), (1, 0), (1, 1)))), False)
        self.assertIs(judge(("follows", ((0, 0), (0, 2), (1, 1), (1, 2)))), False)
        for k in range(3):
            self.assertIs(judge(("follows", good[:k] + good[k + 1:])), False)
            self.assertIs(judge(("follows", good[:k] + good[k:k + 1] + good[k:])), False)
        for pairs in (good[::-1], list(good), (), ((0, 0), (0, 2), [1, 1]), ((0, 0), (0, 2), (True, 1)), ((0, 0), (0, 2), (1, 1), (2, 0)),
                      ((0, 0), (0, 2), (1, 1), (1, 3)), ((0, 0), (0, 2), (1, 1, 1)), ((-1, 0), (0, 0), (0, 2), (1, 1)), "pairs", None, 7,
                      ((False, 0), (0, 2), (1, 1)), good + ((1, 1, 1),), good + ((1, 2, 0),), {(0, 0): 1}, ((0, 0), (0, 2), None)):
            self.assertIs(judge(("follows", pairs)), False)

    def test_greater_sets_of_pairs(self):
        """Pairs that are not met must be closed, too, and what a label leads to must be followed."""
        first = make_program(("x",), (0, (), 1), (1, (), 1), (2, (), 2))
        second = make_program(("x",), (0, (), 1), (1, (), 1), (2, (), 3), (3, (), 3), (4, (), 2), (3, (), 2))
        labels = (0, 1, None, 2, 2, None)
        self.assertEqual(following_paper(first, second, labels), ("follows", ((0, 0), (1, 1))))
        for more, good in (((), True), (((2, 3),), False), (((2, 2), (2, 3)), True), (((2, 2),), False), (((2, 2), (2, 3), (2, 4)), True),
                           (((2, 4),), False), (((1, 0),), False), (((1, 4),), False), (((0, 5),), False)):
            pairs = tuple(sorted(((0, 0), (1, 1)) + more))
            self.assertIs(is_following_paper(first, second, labels, ("follows", pairs)), good)
            if (0, 5) not in pairs:
                self.assertIs(paper_by_hand(first, second, labels, ("follows", pairs)), good)
        # (3, 4) is settled by the pair (2, 4) alone, and from there nothing can be followed.
        first = make_program(("x",), (0, (), 1), (2, (), 3), (3, (), 3))
        second = make_program(("x",), (0, (), 1), (4, (), 4))
        self.assertIs(is_following_paper(first, second, (0, 1), ("follows", ((0, 0), (1, 1)))), True)
        self.assertIs(is_following_paper(first, second, (0, 1), ("follows", ((0, 0), (1, 1), (2, 4), (3, 4)))), False)

    def test_lost(self):
        first = make_program(("x",), (0, (), 1), (1, (), 0))
        labels = (0, 0, None)
        second = make_program(("x",), (0, (), 1), (1, (), 0), (0, (), 0))
        for run, good in (((), False), ((0,), False), ((0, 1), True), ((2, 0, 1), True), ((2,) * 500 + (0, 1, 2, 0), True), ((1,), False),
                          ((0, 0), False), ((0, 1, 1), False), ([0, 1], False), ((0, True), False), ((0, 3), False), ((0, -2), False),
                          (None, False), ((0, 1, None), False), ("01", False), (((0,), 1), False)):
            self.assertIs(is_following_paper(first, second, labels, ("lost", run)), good)
        for value in (("lost", (0, 1), 0), ("Lost", (0, 1)), ("stuck", (0, 1)), (None, (0, 1)), (True, (0, 1)), ["lost", (0, 1)]):
            self.assertIs(is_following_paper(first, second, labels, value), False)
        self.assertIs(is_following_paper(first, second, labels, ("follows", ((0, 0), (1, 1)))), False)

    def test_stuck(self):
        first = make_program(("x",), (0, (), 1), (1, (), 0), (1, (("x", 1),), 1))
        second = make_program(("x",), (0, (), 2), (2, (), 1), (1, (), 0), (1, (), 1))
        labels = (None, 0, 1, None)
        judge = lambda *rest: is_following_paper(first, second, labels, ("stuck", *rest))
        self.assertEqual(following_paper(first, second, labels), ("stuck", (0, 1), 2))
        self.assertIs(judge((0, 1), 2), True)
        self.assertIs(judge((0, 1, 2) * 70 + (0, 1), 2), True)
        # An edge that can be followed, one from elsewhere, and runs with no label at their last edge.
        for run, index in (((0, 1), 1), ((0, 1), 0), ((), 0), ((0,), 0), ((0, 1, 3), 2), ((0, 1, 3, 3), 2), ((0, 1, 2), 2), ((), 2), ((0, 1), 3),
                           ((0, 1), -1), ((0, 1), True), ((0, 1), None), ([0, 1], 2), ((1,), 2), ((0, 1, 0), 2), (None, 2), ((0, 1), (2,))):
            self.assertIs(judge(run, index), False)
        for word in ("Stuck", "lost", "follows", None, 0, ()):
            self.assertIs(is_following_paper(first, second, labels, (word, (0, 1), 2)), False)
        self.assertIs(judge((0, 1)), False)
        self.assertIs(judge((0, 1), 2, 2), False)
        # The run may be empty.
        self.assertIs(is_following_paper(first, second, (None, 1, 0, None), ("stuck", (), 0)), True)
        self.assertIs(is_following_paper(first, first, (0, 1, 1), ("stuck", (0,), 2)), True)

    def test_a_run_that_is_lost_is_not_stuck(self):
        first = make_program(("x",), (0, (), 1), (1, (), 2))
        second = make_program(("x",), (0, (), 1), (1, (), 1))
        self.assertIs(is_following_paper(first, second, (0, 0), ("stuck", (0,), 1)), True)
        self.assertIs(is_following_paper(first, second, (0, 0), ("stuck", (0, 1), 1)), False)
        self.assertIs(is_following_paper(first, second, (0, 0), ("lost", (0, 1))), True)

    def test_exactly_one_kind(self):
        """Papers of the first kind exist if and only if there are none of the others."""
        for seed in range(80):
            first, second, labels = random_pair(seed, follow=seed % 3 == 0)
            good = follows(first, second, labels)
            self.assertEqual(good, follows_by_hand(first, second, labels, 5))
            met = tuple(sorted({(u, v) for _, u, v in runs_with(first, second, labels, 6)}))
            everything = tuple((u, v) for u in range(first[1]) for v in range(second[1]))
            for pairs in (met, everything):
                self.assertIs(is_following_paper(first, second, labels, ("follows", pairs)),
                              paper_by_hand(first, second, labels, ("follows", pairs)))
            if not good:
                self.assertIs(is_following_paper(first, second, labels, ("follows", met)), False)
            for run, _ in all_runs(second, 3):
                self.assertIs(is_following_paper(first, second, labels, ("lost", run)), lost_by_hand(first, second, labels, run))
                for index in range(len(first[2])):
                    self.assertIs(is_following_paper(first, second, labels, ("stuck", run, index)),
                                  stuck_by_hand(first, second, labels, run, index))

    def test_great_programs(self):
        edges = tuple((k, (), k + 1) for k in range(59)) + ((59, (), 0),) + tuple((k, (), (k * 7) % 60) for k in range(60))
        first = program_from(("x",), edges)
        self.assertIs(follows(first, first, labels_of(first)), True)
        # Edges that lead to the next point or to the one behind it, with labels by turns: each pair is met.
        second = program_from(("x",), tuple((k, (), (k + j) % 60) for k in range(60) for j in (1, 2)))
        labels = tuple(j for _ in range(60) for j in (0, 1))
        first = make_program(("x",), (0, (), 0), (0, (("x", 1),), 0))
        self.assertEqual(following_paper(first, second, labels), ("follows", tuple((0, k) for k in range(60))))
        paper = following_paper(program_from(("x",), edges), second, (None,) * 120)
        self.assertEqual(paper[0], "stuck")
        ring = program_from(("x",), tuple((k, (), (k + 1) % 59) for k in range(59)))
        tour = program_from(("x",), tuple((k, (), (k + 1) % 60) for k in range(60)))
        paper = following_paper(ring, tour, tuple(range(59)) + (0,))
        self.assertEqual(paper[0], "lost")
        self.assertIs(is_following_paper(ring, tour, tuple(range(59)) + (0,), paper), True)
        self.assertIsNotNone(path_by_hand(tour, paper[1]))

    def test_other_values(self):
        for value in STRANGE + (("follows",), ("lost",), ("stuck",), ("lost", ()), ("stuck", (), 0), ("Follows", ((0, 0), (0, 2), (1, 1))),
                                ["follows", ((0, 0), (0, 2), (1, 1))], (None, ((0, 0), (0, 2), (1, 1))), ("lost", ((0, 0), (0, 2), (1, 1))), ("follows", ((0, 0), (0, 2), (1, 1)), 1)):
            self.assertIs(is_following_paper(FORK, SHORT, SHORT_LABELS, value), False)


class ErrorsTest(unittest.TestCase):
    def test_errors(self):
        for call in (follows, following_paper, lambda first, second, labels: is_following_paper(first, second, labels, None)):
            for value in STRANGE + WRONG_PROGRAMS:
                with self.assertRaises(InvalidProgram):
                    call(value, None, None)
                with self.assertRaises(InvalidProgram):
                    call(value, SHORT, SHORT_LABELS)
                with self.assertRaises(InvalidProgram):
                    call(FORK, value, None)
            for value in WRONG_LABELS:
                with self.assertRaises(InvalidOperation):
                    call(FORK, SHORT, value)

    def test_unrolled(self):
        first = make_program(("x",), (0, (), 1), (1, (), 0))
        second, labels = unrolled(3, first)
        self.assertIs(follows(first, second, labels), True)

    def test_defined_there(self):
        for name in ("follows", "following_paper", "is_following_paper"):
            self.assertEqual(getattr(module, name).__module__, "termpaths.pairs.following")


if __name__ == "__main__":
    unittest.main()
