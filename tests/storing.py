"""A store done by hand: all that is in effect is made again from the groups, for the tests."""

import copy

from tests.hand import FORK, LOOP
from tests.pairing import SHORT, SHORT_LABELS
from termpaths.bounds.heights import greatest_height, heights
from termpaths.optimizer.optimizer import optimized
from termpaths.pairs.following import follows
from termpaths.pairs.pairs import agree
from termpaths.patterns.patterns import Pattern
from termpaths.questions.equalities import fits, holds
from termpaths.questions.failing import shortest_failing, shortest_misfit

FOLLOWED = ("f", "x")
EQUAL = ("equal", "loop", 1, "y", FOLLOWED)
UNEQUAL = ("equal", "loop", 1, "x", ("a",))
SHAPE = ("shape", "fork", 1, Pattern(x=("f", 1)))
MISFIT = ("shape", "loop", 1, Pattern(x=("f", 1)))
HEIGHT = ("height", "fork", 1, "x", 1)
TOO_HIGH = ("height", "loop", 1, "x", 2)
AGREE = ("agree", "fork", "short", SHORT_LABELS, ((1, 1, "x", "x"),))
DIFFER = ("agree", "fork", "short", SHORT_LABELS, ((1, 1, "x", "z"),))
LOST = ("agree", "fork", "short", (0, 1, 1), ())
STUCK = ("agree", "fork", "short", (0, None, None), ())
PROGRAMS = (("put", "fork", FORK), ("put", "loop", LOOP), ("put", "short", SHORT))
KEPT = (EQUAL, SHAPE, HEIGHT, AGREE)
BROKEN = (UNEQUAL, MISFIT, TOO_HIGH, DIFFER, LOST, STUCK)


def free(program):
    return Pattern.free(*program[0])


class Plain:
    """Programs, entries, assertions and groups in plain lists and dicts, copied as a whole."""

    def __init__(self):
        self.programs = {}
        self.entries = {}
        self.assertions = []
        self.groups = []
        self.undone = []
        self.floor = 0

    def state(self):
        return copy.copy(self.programs), copy.copy(self.entries), list(self.assertions)

    def restore(self, state):
        self.programs, self.entries, self.assertions = copy.copy(state[0]), copy.copy(state[1]), list(state[2])

    def snapshot(self):
        return self.state(), list(self.groups), list(self.undone)

    def back_to(self, snapshot):
        self.restore(snapshot[0])
        self.groups, self.undone = list(snapshot[1]), list(snapshot[2])

    def apply(self, *edits):
        """Make edits that are known to be right."""
        if edits:
            before = self.state()
            for edit in edits:
                self.make(*edit)
            self.groups.append((edits, before, self.state()))
            self.undone = []
        return len(self.groups)

    def make(self, word, *rest):
        if word == "put":
            self.programs[rest[0]] = rest[1]
            self.entries[rest[0]] = free(rest[1])
        elif word == "enter":
            self.entries[rest[0]] = free(self.programs[rest[0]]) if rest[1] is None else rest[1]
        elif word == "remove":
            del self.programs[rest[0]], self.entries[rest[0]]
        elif word == "rename":
            old, new = rest
            self.programs[new] = self.programs.pop(old)
            self.entries[new] = self.entries.pop(old)
            self.assertions = [renamed(one, old, new) for one in self.assertions]
        elif word == "edge":
            names, size, edges = self.programs[rest[0]]
            self.programs[rest[0]] = (names, size, edges + (rest[1],))
        elif word == "cut":
            names, size, edges = self.programs[rest[0]]
            self.programs[rest[0]] = (names, size, edges[:rest[1]] + edges[rest[1] + 1:])
        elif word == "optimize":
            name, new, outputs = rest
            self.programs[new] = optimized(self.programs[name], outputs, entry=self.entries[name])
            self.entries[new] = self.entries[name]
        elif word == "assert":
            self.assertions.append(rest[0])
        else:
            del self.assertions[rest[0]]

    def undo(self, many):
        for _ in range(many):
            group = self.groups.pop()
            self.restore(group[1])
            self.undone.append(group)

    def redo(self, many):
        for _ in range(many):
            group = self.undone.pop()
            self.restore(group[2])
            self.groups.append(group)

    def kept(self, index):
        """Tell whether an assertion is true, by the functions that answer it."""
        word, name, *rest = self.assertions[index]
        program, entry = self.programs[name], self.entries[name]
        if word == "equal":
            return holds(program, *rest, entry=entry)
        if word == "shape":
            return fits(program, *rest, entry=entry)
        if word == "height":
            point, variable, most = rest
            if point not in heights(program, entry=entry):
                return True
            height = greatest_height(program, point, variable, entry=entry)
            return height is not None and height <= most
        second = self.programs[rest[0]]
        return follows(program, second, rest[1]) and agree(program, second, rest[1], rest[2], entry=entry)


def renamed(assertion, old, new):
    many = 2 if assertion[0] == "agree" else 1
    return (assertion[0],) + tuple(new if name == old else name for name in assertion[1:many + 1]) + assertion[many + 1:]


def same_state(test, store, plain):
    """Check that a store tells what the plain one has."""
    test.assertEqual(store.programs, plain.programs)
    test.assertEqual(list(store.programs), sorted(plain.programs))
    test.assertEqual({name: store.entry(name) for name in plain.programs}, plain.entries)
    test.assertEqual(store.assertions, tuple(plain.assertions))
    test.assertEqual(store.log(), tuple(group[0] for group in plain.groups))
    test.assertEqual(len(store), len(plain.programs))


def paper_of(store, index):
    """Return what the stages answer for the assertion of a store that is broken."""
    word, name, *rest = store.assertions[index]
    if word == "equal":
        return shortest_failing(store[name], *rest, entry=store.entry(name))
    return shortest_misfit(store[name], *rest, entry=store.entry(name))
