"""[17.1], [17.2], stage 17: a store, its groups, trials and attempts, and what is kept."""

import unittest

from tests.hand import FORK, LOOP, NAMES, TURN
from tests.pairing import SHORT, SHORT_LABELS
from tests.reference import STRANGE, powers, rng, tall
from tests.storing import (
    AGREE, BROKEN, DIFFER, EQUAL, HEIGHT, KEPT, LOST, MISFIT, PROGRAMS, SHAPE, STUCK, TOO_HIGH, UNEQUAL, Plain, paper_of, same_state,
)
from tests.test_pairs import many_pairs
from termpaths.bounds.heights import height_after
from termpaths.errors import (
    Broken, InvalidEdit, InvalidNumber, InvalidOperation, InvalidPattern, NothingToUndo, TermError, TooLarge, UnknownName,
)
from termpaths.pairs.following import is_following_paper
from termpaths.pairs.pairs import is_agreement_paper
from termpaths.patterns.patterns import Pattern
from termpaths.programs.programs import make_program, program_from
from termpaths.programs.runs import end_of
from termpaths.store import store as module
from termpaths.store.store import Store, StrictStore

WRONG_NUMBERS = (-1, True, False, None, "1", (), [1], {}, -10 ** 39, 1.0)
GREAT = program_from(("x",), tuple((k, (("x", tall(7)),), k + 1) for k in range(59)))


class Oops(Exception):
    pass


class OtherStore(Store):
    pass


def filled(kind=Store, assertions=KEPT):
    store = kind()
    store.apply(*PROGRAMS)
    for one in assertions:
        store.apply(("assert", one))
    return store


def told(store):
    """Return all that a store tells of itself."""
    entries = {name: store.entry(name) for name in store.programs}
    return store.programs, entries, store.assertions, store.log()


class StoreTest(unittest.TestCase):
    def test_written(self):
        store = Store()
        self.assertEqual(store.apply(("put", "loop", LOOP), ("assert", ("equal", "loop", 1, "y", ("f", "x")))), 1)
        self.assertEqual(store.apply(("edge", "loop", (1, (("y", "x"),), 1))), 2)
        self.assertEqual(
            [store.status(0), store.undo(), store.status(0), str(store)],
            [("broken", (0, 2)), 1, ("kept",), "store with 1 programs, 1 assertions"])

    def test_empty(self):
        store = Store()
        self.assertEqual((store.programs, store.assertions, store.log(), len(store), str(store)), ({}, (), (), 0, "store with 0 programs, 0 assertions"))
        self.assertEqual((store.undo(many=0), store.redo(many=0), store.apply(), store.apply_all(())), (0, 0, 0, 0))
        self.assertEqual(list(store.broken()), [])
        self.assertEqual(store, Store())

    def test_programs(self):
        store = Store()
        store.apply(("put", "b", LOOP), ("put", "a", FORK), ("put", "c", TURN))
        self.assertEqual(list(store.programs.items()), [("a", FORK), ("b", LOOP), ("c", TURN)])
        self.assertEqual((store["a"], store["b"], len(store)), (FORK, LOOP, 3))
        self.assertEqual(store.entry("b"), Pattern(x=1, y=2))
        self.assertEqual(str(store), "store with 3 programs, 0 assertions")
        for value in ("a", "b", "c"):
            self.assertIs(value in store, True)
        for value in STRANGE + ("d", "A", ("a",), ["a"], {"a": 1}, LOOP, b"a"):
            self.assertIs(value in store, False)
            for call in (lambda: store[value], lambda: store.entry(value)):
                with self.assertRaises(UnknownName) as caught:
                    call()
                self.assertIs(caught.exception.name, value)
        with self.assertRaises(TypeError):
            iter(store)
        with self.assertRaises(TypeError):
            list(store)

    def test_no_access(self):
        store = filled()
        before = told(store)
        store.programs.clear()
        store.programs["fork"] = LOOP
        outputs = store.status(3)
        self.assertEqual(outputs, ("kept",))
        found = store.programs
        found["more"] = TURN
        self.assertEqual(told(store), before)
        edits = [("put", "more", TURN)]
        store.apply(*edits)
        edits.append(None)
        edits[0] = None
        self.assertEqual(store.log()[-1], (("put", "more", TURN),))
        with self.assertRaises(AttributeError):
            store.programs = {}
        with self.assertRaises(AttributeError):
            store.assertions = ()

    def test_equality(self):
        store = filled()
        others = [filled(), filled(OtherStore), filled(StrictStore)]
        for other in others:
            self.assertIs(store == other, True)
            self.assertIs(other == store, True)
            self.assertIs(store != other, False)
        # Groups do not count, and neither does what can be made again.
        grouped = Store()
        grouped.apply(*PROGRAMS, *[("assert", one) for one in KEPT])
        grouped.apply(("drop", 0))
        grouped.undo()
        self.assertIs(store == grouped, True)
        for edit in (("drop", 3), ("put", "more", LOOP), ("enter", "fork", Pattern(x=1, y=1, z=2)), ("rename", "loop", "more"), ("assert", EQUAL),
                     ("edge", "loop", (0, (), 0)), ("cut", "loop", 1)):
            other = filled()
            other.apply(edit)
            self.assertIs(store == other, False)
            self.assertIs(store != other, True)
            other.undo()
            self.assertIs(store == other, True)
        other = Store()
        other.apply(*PROGRAMS[::-1])
        other.apply(*[("assert", one) for one in KEPT])
        self.assertIs(store == other, True)
        other = Store()
        other.apply(*PROGRAMS)
        other.apply(*[("assert", one) for one in KEPT[::-1]])
        self.assertIs(store == other, False)
        for value in STRANGE + (store.programs, store.log()):
            self.assertIs(store == value, False)
            self.assertIs(store != value, True)

    def test_defined_there(self):
        for name in ("Store", "StrictStore"):
            self.assertEqual(getattr(module, name).__module__, "termpaths.store.store")
        for name in ("apply", "apply_all", "undo", "redo", "trial", "attempt", "__enter__", "__exit__", "status", "broken", "programs", "assertions",
                     "entry", "__getitem__", "__contains__", "__len__", "log", "__eq__", "__str__"):
            self.assertIn(name, vars(Store))
        for name in ("apply", "apply_all", "trial"):
            self.assertIn(name, vars(StrictStore))
        self.assertTrue(issubclass(StrictStore, Store))


class GroupsTest(unittest.TestCase):
    def test_undo_and_redo(self):
        store = Store()
        groups = [(("put", "a", LOOP),), (("put", "b", FORK), ("put", "c", TURN)), (("rename", "a", "d"), ("remove", "b")), (("assert", HEIGHT[:1] + ("d",) + HEIGHT[2:]),)]
        states = [told(store)]
        for k, group in enumerate(groups):
            self.assertEqual(store.apply_all(group), k + 1)
            states.append(told(store))
        self.assertEqual(store.log(), tuple(groups))
        for many in (0, 1, 2, 3, 4):
            self.assertEqual(store.undo(many=many), 4 - many)
            self.assertEqual(told(store), states[4 - many])
            for value in (many + 1, 10 ** 39):
                with self.assertRaises(NothingToUndo) as caught:
                    store.redo(many=value)
                self.assertEqual(caught.exception.many, value)
            for value in (5 - many, 10 ** 39):
                with self.assertRaises(NothingToUndo) as caught:
                    store.undo(many=value)
                self.assertEqual(caught.exception.many, value)
            self.assertEqual(store.redo(many=many), 4)
            self.assertEqual(told(store), states[4])
        self.assertEqual((store.undo(), store.undo(), store.redo(), store.undo(many=3), store.redo(many=2), store.redo()), (3, 2, 3, 0, 2, 3))
        self.assertEqual(told(store), states[3])

    def test_wrong_numbers(self):
        store = filled()
        store.undo(many=2)
        before = told(store)
        for value in WRONG_NUMBERS:
            for call in (store.undo, store.redo):
                with self.assertRaises(InvalidNumber) as caught:
                    call(many=value)
                self.assertIs(caught.exception.value, value)
        self.assertEqual(told(store), before)
        with self.assertRaises(TypeError):
            store.undo(1)

    def test_a_new_group_ends_redo(self):
        store = filled()
        store.undo(many=2)
        # An error does not end it, and neither does a group without edits, nor an undo of none.
        for edits in ((("drop", 9),), (None,), (("put", "more", TURN), ("remove", "none"))):
            with self.assertRaises((TermError, IndexError, KeyError)):
                store.apply(*edits)
        store.apply()
        store.apply_all(())
        store.undo(many=0)
        self.assertEqual(store.redo(), 4)
        store.apply(("drop", 0))
        with self.assertRaises(NothingToUndo):
            store.redo()
        self.assertEqual(store.redo(many=0), 5)

    def test_random(self):
        for kind in (Store, StrictStore):
            for seed in range(60):
                RandomStory(self, kind, seed).tell(4, 8)


class RandomStory:
    """Does at random the same with a store and with a plain one, within one another."""

    def __init__(self, test, kind, seed):
        self.test = test
        self.one = rng(seed)
        self.store = kind()
        self.plain = Plain()
        for store in (self.store, self.plain):
            store.apply(*PROGRAMS)

    def edits(self):
        """Return some edits that can be made one after the other."""
        one = self.one
        kinds = [(("assert", one.choice(KEPT)),), (("put", one.choice("abcde"), one.choice((FORK, LOOP))),), (("edge", "loop", (0, (), 0)), ("cut", "loop", 2)),
                 (("assert", EQUAL), ("drop", len(self.plain.assertions))), (("rename", "fork", "temp"), ("rename", "temp", "fork")), ()]
        if "fork" not in self.plain.programs:
            return PROGRAMS
        return () if len(self.plain.assertions) > 10 else one.choice(kinds)

    def tell(self, depth, steps):
        for _ in range(steps):
            self.step(depth)
            same_state(self.test, self.store, self.plain)

    def step(self, depth):
        kind = self.one.randrange(9 if depth else 4)
        plain = self.plain
        if kind < 2:
            edits = self.edits()
            self.test.assertEqual(self.store.apply(*edits), plain.apply(*edits))
        elif kind == 2:
            many = self.one.randrange(4)
            if many > len(plain.groups) - plain.floor:
                with self.test.assertRaises(NothingToUndo):
                    self.store.undo(many=many)
            else:
                plain.undo(many)
                self.test.assertEqual(self.store.undo(many=many), len(plain.groups))
        elif kind == 3:
            many = self.one.randrange(3)
            if many > len(plain.undone):
                with self.test.assertRaises(NothingToUndo):
                    self.store.redo(many=many)
            else:
                plain.redo(many)
                self.test.assertEqual(self.store.redo(many=many), len(plain.groups))
        elif kind == 4:
            with self.test.assertRaises(UnknownName):
                self.store.apply(("put", "e", TURN), ("remove", "none"))
        elif kind < 7:
            self.trial(depth, kind == 5)
        else:
            self.attempt(depth, self.one.randrange(2) == 0, kind == 7)

    def trial(self, depth, fails):
        edits = self.edits()
        snapshot, floor = self.plain.snapshot(), self.plain.floor
        self.plain.apply(*edits)
        self.plain.floor = len(snapshot[1])
        self.plain.undone = []
        try:
            self.test.assertEqual(self.store.trial(edits, lambda store: self.inside(store, depth, fails)), "done")
        except Oops:
            self.test.assertTrue(fails)
        self.plain.back_to(snapshot)
        self.plain.floor = floor

    def attempt(self, depth, fails, block):
        snapshot = self.plain.snapshot()
        try:
            if block:
                with self.store as store:
                    self.inside(store, depth, fails)
            else:
                self.test.assertEqual(self.store.attempt(lambda store: self.inside(store, depth, fails)), "done")
        except Oops:
            self.test.assertTrue(fails)
            self.plain.back_to(snapshot)

    def inside(self, store, depth, fails):
        self.test.assertIs(store, self.store)
        self.tell(depth - 1, 4)
        if fails:
            raise Oops("within")
        return "done"


class TrialsTest(unittest.TestCase):
    def setUp(self):
        self.store = filled()
        self.store.undo(many=2)
        self.before = told(self.store)

    def unchanged(self):
        self.assertEqual(told(self.store), self.before)
        self.assertEqual(self.store.redo(many=2), 5)
        self.assertEqual(self.store.assertions, KEPT)
        self.store.undo(many=2)

    def test_trial(self):
        edits = (("put", "more", TURN), ("assert", ("height", "more", 0, "x", 0)))

        def call(store):
            self.assertIs(store, self.store)
            self.assertEqual(store.log(), self.before[3] + (edits,))
            self.assertIn("more", store)
            self.assertEqual(store.apply(("drop", 0)), 5)
            return store.assertions

        self.assertEqual(self.store.trial(edits, call), (SHAPE, ("height", "more", 0, "x", 0)))
        self.unchanged()
        self.assertIsNone(self.store.trial((), lambda store: None))
        self.unchanged()

    def test_groups_from_before(self):
        def call(store):
            with self.assertRaises(NothingToUndo):
                store.redo()
            self.assertEqual(store.undo(), 3)
            with self.assertRaises(NothingToUndo) as caught:
                store.undo()
            self.assertEqual(caught.exception.many, 1)
            self.assertEqual(store.redo(), 4)
            self.assertEqual(store.apply(("drop", 0)), 5)
            with self.assertRaises(NothingToUndo) as caught:
                store.undo(many=3)
            self.assertEqual(caught.exception.many, 3)
            self.assertEqual(store.undo(many=2), 3)
            self.assertEqual(told(store), self.before)
            with self.assertRaises(NothingToUndo):
                store.redo(many=3)
            # A trial in a trial: the groups that were taken back before it cannot be made again in it.
            self.assertEqual(store.trial((), inner), "inner")
            self.assertEqual(store.redo(many=2), 5)
            return "outer"

        def inner(store):
            for other in (store.undo, store.redo):
                with self.assertRaises(NothingToUndo):
                    other()
            # In an attempt within a trial they cannot be either.
            with self.assertRaises(NothingToUndo):
                store.attempt(lambda one: one.undo())
            return "inner"

        self.assertEqual(self.store.trial((("put", "more", TURN),), call), "outer")
        self.unchanged()
        # Behind the trial they can be taken back again.
        self.assertEqual(self.store.undo(many=3), 0)

    def test_trials_with_errors(self):
        def call(store):
            store.undo()
            store.apply(("remove", "short"), ("put", "x", FORK))
            raise Oops("in a trial")

        for edits in ((), (("put", "more", TURN),)):
            with self.assertRaises(Oops if edits else NothingToUndo):
                self.store.trial(edits, call)
            self.unchanged()
        with self.assertRaises(UnknownName):
            self.store.trial((("put", "more", TURN), ("remove", "none")), None)
        for value in (None, [], [("put", "more", TURN)], {}, "edits"):
            with self.assertRaises(InvalidEdit):
                self.store.trial(value, call)
        self.unchanged()
        # An error of a trial's edits in a trial is as every other error in it.
        with self.assertRaises(InvalidEdit):
            self.store.trial((), lambda store: store.trial((None,), None))
        self.unchanged()
        self.assertEqual(self.store.undo(many=3), 0)

    def test_attempt(self):
        def call(store):
            self.assertIs(store, self.store)
            # Everything is possible here.
            self.assertEqual(store.redo(many=2), 5)
            self.assertEqual(store.undo(many=5), 0)
            store.apply(("put", "one", LOOP))
            return len(store)

        self.assertEqual(self.store.attempt(call), 1)
        self.assertEqual(self.store.log(), ((("put", "one", LOOP),),))
        with self.assertRaises(NothingToUndo):
            self.store.redo()

    def test_attempts_with_errors(self):
        def call(store):
            store.undo(many=2)
            store.apply(("put", "one", LOOP))
            store.attempt(lambda one: one.apply(("put", "two", LOOP)))
            self.assertEqual(len(store.log()), 3)
            raise Oops("in an attempt")

        with self.assertRaises(Oops):
            self.store.attempt(call)
        self.unchanged()
        with self.assertRaises(Oops):
            with self.store as store:
                call(store)
        self.unchanged()
        for error in (KeyError, InvalidPattern, StopIteration, SystemExit, KeyboardInterrupt, GeneratorExit):
            with self.assertRaises(error):
                with self.store:
                    self.store.undo(many=2)
                    raise error("in a block")
            self.unchanged()

            def failing(store):
                store.undo(many=2)
                raise error("in a call")

            for attempt in (self.store.attempt, lambda one: self.store.trial((("put", "a", LOOP), ("put", "b", LOOP)), lambda store: store.attempt(one))):
                with self.assertRaises((error, NothingToUndo)):
                    attempt(failing)
                self.unchanged()

    def test_blocks(self):
        with self.store as store:
            self.assertIs(store, self.store)
            store.apply(("put", "one", LOOP))
            with store:
                store.apply(("put", "two", LOOP))
            try:
                with store as third:
                    third.apply(("put", "three", LOOP))
                    with third:
                        third.undo(many=2)
                    raise Oops("inner")
            except Oops:
                pass
            self.assertEqual(len(store.log()), 5)
            with self.assertRaises(NothingToUndo):
                store.redo()
        self.assertEqual(list(self.store.programs), ["fork", "loop", "one", "short", "two"])
        with self.assertRaises(Oops):
            with self.store:
                self.store.undo()
                with self.store:
                    self.store.undo()
                raise Oops("outer")
        self.assertEqual(len(self.store.log()), 5)
        with self.assertRaises(NothingToUndo):
            self.store.redo()

    def test_results(self):
        for value in (None, 0, [], self.store):
            self.assertIs(self.store.attempt(lambda store: value), value)
            self.assertIs(self.store.trial((), lambda store: value), value)


class StatusTest(unittest.TestCase):
    def test_kept_and_broken(self):
        store = filled(assertions=KEPT + BROKEN)
        for index in range(4):
            self.assertEqual(store.status(index), ("kept",))
        for index in (4, 5):
            self.assertEqual(store.status(index), ("broken", paper_of(store, index)))
        self.assertEqual(store.status(4), ("broken", (0, 1)))
        self.assertEqual(store.status(5), ("broken", (0,)))
        word, run = store.status(6)
        self.assertEqual((word, end_of(LOOP, run)), ("broken", 1))
        self.assertGreater(height_after(LOOP, run, "x"), 2)
        word, paper = store.status(7)
        self.assertEqual(word, "broken")
        self.assertIs(is_agreement_paper(FORK, SHORT, SHORT_LABELS, DIFFER[4], paper), True)
        for index, kind, assertion in ((8, "lost", LOST), (9, "stuck", STUCK)):
            word, paper = store.status(index)
            self.assertEqual((word, paper[0]), ("broken", kind))
            self.assertIs(is_following_paper(FORK, SHORT, assertion[3], paper), True)
        self.assertEqual(list(store.broken()), [(index, store.status(index)) for index in range(4, 10)])
        for value in (10, -1, True, None, "0", (), [0], 10 ** 39):
            with self.assertRaises(InvalidNumber) as caught:
                store.status(value)
            self.assertIs(caught.exception.value, value)
        with self.assertRaises(InvalidNumber):
            Store().status(0)

    def test_entries(self):
        store = filled(assertions=(("equal", "fork", 1, "x", ("f", "z")), ("shape", "loop", 0, Pattern(x=1, y=1)), ("height", "fork", 1, "x", 2),
                                   ("agree", "short", "fork", (0, 0), ())))
        self.assertEqual([store.status(k)[0] for k in range(4)], ["broken", "broken", "kept", "broken"])
        store.apply(("enter", "fork", Pattern(x=1, y=2, z=2)), ("enter", "loop", Pattern(x=1, y=1)))
        self.assertEqual([store.status(k)[0] for k in range(4)], ["kept", "kept", "kept", "broken"])
        store.apply(("enter", "fork", Pattern(x=1, y=("f", ("f", 2)), z=2)))
        self.assertEqual([store.status(k) for k in (0, 2)], [("broken", (1,)), ("broken", (1,))])
        # Both programs begin at the entry of the first one.
        other = make_program(NAMES, (0, (("x", ("f", "y")),), 1), (0, (("x", ("f", "y")),), 1))
        store.apply(("put", "other", other), ("assert", ("agree", "fork", "other", (0, 1), ((1, 1, "x", "x"),))))
        self.assertEqual(store.status(4)[0], "broken")
        store.apply(("enter", "other", Pattern(x=1, y=2, z=2)))
        self.assertEqual(store.status(4)[0], "broken")
        store.apply(("enter", "fork", Pattern(x=1, y=2, z=2)), ("enter", "other", None))
        self.assertEqual(store.status(4), ("kept",))

    def test_points_that_no_run_reaches(self):
        program = make_program(("x",), (1, (("x", tall(7)),), 1), size=2)
        store = Store()
        store.apply(("put", "far", program), ("assert", ("equal", "far", 1, "x", ("a",))), ("assert", ("shape", "far", 1, Pattern(x=("a",)))),
                    ("assert", ("height", "far", 1, "x", 0)), ("assert", ("agree", "far", "far", (0,), ((1, 1, "x", "x"), (0, 1, "x", "x")))))
        self.assertEqual(list(store.broken()), [])
        store.apply(("drop", 3), ("edge", "far", (0, (), 1)))
        self.assertEqual([one for one, _ in store.broken()], [0, 1, 2])
        self.assertEqual(store.status(2), ("broken", (1, 0)))

    def test_heights(self):
        store = Store()
        store.apply(("put", "loop", LOOP), *[("assert", ("height", "loop", 1, name, most)) for name, most in (("x", 0), ("y", 0), ("x", 60), ("y", 60))])
        self.assertEqual([store.status(k) for k in range(4)], [("broken", (0, 1)), ("broken", (0,)), ("broken", (0,) + (1,) * 61), ("broken", (0,) + (1,) * 60)])
        store.apply(("cut", "loop", 1))
        self.assertEqual([store.status(k) for k in range(4)], [("kept",), ("broken", (0,)), ("kept",), ("kept",)])
        store.apply(("put", "high", make_program(("x",))), ("enter", "high", powers(x=61)), ("assert", ("height", "high", 0, "x", 60)))
        self.assertEqual(store.status(4), ("broken", ()))
        store.apply(("enter", "high", powers(x=60)))
        self.assertEqual(store.status(4), ("kept",))

    def test_programs_of_pairs_that_cannot_be_made(self):
        store = Store()
        first, second, labels = many_pairs(61, 60)
        long = make_program(("abcdefgh",), (0, (), 0))
        store.apply(("put", "first", first), ("put", "second", second), ("put", "long", long), ("put", "wide", program_from(tuple("abcdef"), ())))
        store.apply(("assert", ("agree", "first", "second", labels, ())), ("assert", ("agree", "long", "long", (0,), ())),
                    ("assert", ("agree", "wide", "wide", (), ())), ("assert", ("agree", "long", "long", (None,), ())))
        with self.assertRaises(TooLarge) as caught:
            store.status(0)
        self.assertEqual(caught.exception.limit, 60)
        for index in (1, 2):
            with self.assertRaises(InvalidOperation):
                store.status(index)
        # That it does not follow is told without a program of pairs.
        self.assertEqual(store.status(3), ("broken", ("stuck", (), 0)))
        found = store.broken()
        with self.assertRaises(TooLarge):
            next(found)
        store.apply(("drop", 0))
        with self.assertRaises(InvalidOperation):
            list(store.broken())
        store.apply(("drop", 0), ("drop", 0))
        self.assertEqual(list(store.broken()), [(0, ("broken", ("stuck", (), 0)))])

    def test_too_large(self):
        store = Store()
        store.apply(("put", "great", GREAT), ("enter", "great", powers(x=87)), ("assert", ("height", "great", 0, "x", 60)),
                    ("assert", ("equal", "great", 0, "x", ("a",))), ("assert", ("shape", "great", 0, Pattern(x=1))), ("assert", ("height", "great", 0, "x", 1)))
        for index in (1, 2):
            with self.assertRaises(TooLarge) as caught:
                store.status(index)
            self.assertEqual(caught.exception.limit, 500)
        found = store.broken()
        self.assertEqual(next(found), (0, ("broken", ())))
        with self.assertRaises(TooLarge):
            next(found)

    def test_broken_one_by_one(self):
        store = filled(assertions=BROKEN)
        everything = [(index, store.status(index)) for index in range(6)]
        found = store.broken()
        self.assertEqual(next(found), everything[0])
        # It tells of the store as it was when the first one was asked for.
        store.apply(*[("drop", 0)] * 6, ("remove", "fork"), ("remove", "loop"))
        self.assertEqual(list(store.broken()), [])
        self.assertEqual(list(found), everything[1:])
        store.undo()
        found = store.broken()
        store.apply(("drop", 1))
        self.assertEqual([one for _, one in found], [one for index, one in everything if index != 1])

    def test_followed_through_edits(self):
        store = filled(assertions=KEPT + BROKEN)
        papers = [store.status(index) for index in range(10)]
        for edits in ((("rename", "fork", "a"), ("rename", "loop", "fork"), ("rename", "a", "loop")), (("put", "more", TURN),), (("enter", "short", Pattern(x=1, y=1, z=1)),)):
            store.apply(*edits)
            self.assertEqual([store.status(index) for index in range(10)], papers)
        store.undo(many=3)
        self.assertEqual([store.status(index) for index in range(10)], papers)


class StrictTest(unittest.TestCase):
    def test_groups_that_break(self):
        store = filled(StrictStore)
        before = told(store)
        for edits, index in (
            ((("edge", "loop", (1, (("y", "x"),), 1)),), 0), ((("assert", UNEQUAL),), 4), ((("assert", EQUAL), ("assert", MISFIT), ("assert", UNEQUAL)), 5),
            ((("edge", "fork", (0, (), 1)),), 1), ((("drop", 0), ("edge", "fork", (0, (), 1))), 0), ((("put", "loop", make_program(("x", "y"), (0, (), 1))),), 0),
            ((("drop", 0), ("drop", 0), ("drop", 0), ("edge", "fork", (0, (), 1))), 0), ((("assert", LOST),), 4), ((("assert", STUCK),), 4),
            ((("assert", TOO_HIGH),), 4), ((("assert", DIFFER),), 4),
        ):
            for call in (lambda: store.apply(*edits), lambda: store.apply_all(edits), lambda: store.trial(edits, None)):
                with self.assertRaises(Broken) as caught:
                    call()
                self.assertEqual(caught.exception.index, index)
                self.assertEqual(told(store), before)
        # Only what is broken behind the group counts.
        self.assertEqual(store.apply(("assert", UNEQUAL), ("drop", 4)), 6)
        self.assertEqual(store.apply(("edge", "loop", (1, (("y", "x"),), 1)), ("cut", "loop", 2)), 7)
        self.assertEqual(store.undo(many=7), 0)
        self.assertEqual(store.redo(many=7), 7)
        self.assertEqual(store.apply(), 7)

    def test_other_errors_first(self):
        store = filled(StrictStore)
        before = told(store)
        for edits, error in (((("assert", UNEQUAL), None), InvalidEdit), ((("assert", UNEQUAL), ("drop", 9)), InvalidNumber), ((("assert", UNEQUAL), ("remove", "x")), UnknownName)):
            with self.assertRaises(error):
                store.apply(*edits)
        for value in (None, [], "edits"):
            for call in (store.apply_all, lambda one: store.trial(one, None)):
                with self.assertRaises(InvalidEdit):
                    call(value)
        self.assertEqual(told(store), before)

    def test_errors_of_a_status(self):
        store = StrictStore()
        store.apply(("put", "great", GREAT), ("put", "loop", LOOP), ("assert", ("equal", "great", 0, "x", "x")), ("assert", EQUAL))
        before = told(store)
        with self.assertRaises(TooLarge) as caught:
            store.apply(("enter", "great", powers(x=87)), ("assert", UNEQUAL))
        self.assertEqual(caught.exception.limit, 500)
        self.assertEqual(told(store), before)
        with self.assertRaises(TooLarge):
            store.trial((("enter", "great", powers(x=87)),), None)
        # The first one that is not kept is ahead of the error.
        with self.assertRaises(Broken) as caught:
            store.apply(("drop", 0), ("put", "great", GREAT), ("assert", UNEQUAL), ("assert", ("equal", "great", 0, "x", "x")), ("enter", "great", powers(x=87)))
        self.assertEqual(caught.exception.index, 1)
        first, second, labels = many_pairs(61, 60)
        with self.assertRaises(TooLarge) as caught:
            store.apply(("put", "first", first), ("put", "second", second), ("assert", ("agree", "first", "second", labels, ())), ("assert", UNEQUAL))
        self.assertEqual(caught.exception.limit, 60)
        self.assertEqual(told(store), before)

    def test_trials_and_blocks(self):
        store = filled(StrictStore)
        before = told(store)
        self.assertEqual(store.trial((("assert", EQUAL),), lambda one: len(one.assertions)), 5)
        with self.assertRaises(Broken):
            store.trial((("assert", EQUAL),), lambda one: one.apply(("assert", UNEQUAL)))
        with self.assertRaises(Broken):
            store.attempt(lambda one: [one.undo(), one.apply(("assert", UNEQUAL))])
        with self.assertRaises(Broken):
            with store:
                store.undo(many=2)
                store.apply(("assert", UNEQUAL))
        self.assertEqual(told(store), before)
        self.assertEqual(store.attempt(lambda one: one.apply(("assert", HEIGHT))), 6)

    def test_a_plain_store_keeps_what_is_broken(self):
        store = filled(assertions=BROKEN)
        self.assertEqual(len(list(store.broken())), 6)
        strict = StrictStore()
        with self.assertRaises(Broken) as caught:
            strict.apply(*store.log()[0], *[("assert", one) for one in (AGREE,) + BROKEN])
        self.assertEqual(caught.exception.index, 1)
        self.assertEqual(strict, Store())


if __name__ == "__main__":
    unittest.main()
