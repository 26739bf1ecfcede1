"""[17.2], stage 17: the edits of a store and their errors."""

import unittest

from tests.hand import FORK, LOOP, NAMES, TURN
from tests.pairing import SHORT, SHORT_LABELS
from tests.reference import STRANGE, powers, tall
from tests.storing import AGREE, BROKEN, DIFFER, EQUAL, HEIGHT, KEPT, PROGRAMS, SHAPE, Plain, same_state
from tests.test_programs import WRONG_PROGRAMS
from termpaths.errors import (
    InvalidEdit, InvalidNumber, InvalidOperation, InvalidPattern, InvalidProgram, TooLarge, UnknownName,
)
from termpaths.optimizer.optimizer import optimized
from termpaths.patterns.patterns import Pattern
from termpaths.programs.programs import make_program, program_from
from termpaths.store.store import Store

WRONG_NAMES = ("", "X", "a b", "ninechars", "a1", None, 0, True, (), ("x",), ["x"], {}, "x\n", 10 ** 39, Pattern(x=1))
WRONG_EDITS = (
    None, 0, True, "put", [], {}, (), ("put",), ("put", "a"), ("put", "a", LOOP, 0), ["put", "a", LOOP], ("Put", "a", LOOP), ("", "a", LOOP),
    ("enter", "loop"), ("remove",), ("remove", "loop", 0), ("rename", "loop"), ("edge", "loop"), ("cut", "loop"), ("cut", "loop", 0, 0),
    ("optimize", "loop", "new"), ("optimize", "loop", "new", (), 0), ("assert",), ("assert", EQUAL, 0), ("drop",), ("drop", 0, 0), EQUAL, LOOP,
    (("put", "a", LOOP),), (None, "a", LOOP), (["put"], "a", LOOP), ({}, 0), ("undo", 1), ("status", 0), Pattern(x=1), (0, 0), (True, "a", LOOP),
)
WRONG_ASSERTIONS = STRANGE + (
    ("equal",), ("equal", "loop", 1, "y"), EQUAL + (0,), ("Equal",) + EQUAL[1:], list(EQUAL), (None,) + EQUAL[1:], ("equal", "none", 1, "y", "x"),
    ("equal", "loop", 2, "y", "x"), ("equal", "loop", -1, "y", "x"), ("equal", "loop", True, "y", "x"), ("equal", "loop", "1", "y", "x"),
    ("equal", "loop", 1, "z", "x"), ("equal", "loop", 1, "y", 1), ("equal", "loop", 1, "y", ("f", 1)), ("equal", "loop", 1, ["y"], "x"),
    ("equal", ["loop"], 1, "y", "x"), ("equal", None, 1, "y", "x"), ("equal", ("loop",), 1, "y", "x"), ("equal", 0, 1, "y", "x"),
    ("equal", "loop", 1, "y", Pattern(x=1)), ("shape", "loop", 1), ("shape", "loop", 1, Pattern(z=1)), ("shape", "loop", 1, Pattern(x=1, z=1)),
    ("shape", "loop", 1, "x"), ("shape", "loop", 1, None), ("shape", "loop", 2, Pattern(x=1)), ("shape", "loop", 1, Pattern(x=1), 0),
    ("shape", "none", 1, Pattern(x=1)), ("Shape", "loop", 1, Pattern(x=1)), ("equal", "loop", 1, Pattern(x=1)), ("Height", "loop", 1, "x", 2), (None, "loop", 1, "x", 2),
    ("shape", "loop", 1, "x", 2), ("Agree",) + AGREE[1:], ("height", "loop", 1, "x"), ("height", "loop", 1, "z", 2), ("height", "loop", 1, "x", -1),
    ("height", "loop", 1, "x", 61), ("height", "loop", 1, "x", True), ("height", "loop", 1, "x", None), ("height", "loop", 1, ("x",), 2),
    ("height", "loop", 2, "x", 2), ("height", "none", 1, "x", 2), ("height", "loop", 1, "x", 2, 2), ("height", "loop", 1, Pattern(x=1), 2),
    ("agree", "fork", "short", SHORT_LABELS), ("agree", "none", "short", SHORT_LABELS, ()), ("agree", "fork", "none", SHORT_LABELS, ()),
    ("agree", "fork", "short", (0, None), ()), ("agree", "fork", "short", (0, None, 2), ()), ("agree", "fork", "short", None, ()),
    ("agree", "fork", "short", SHORT_LABELS, None), ("agree", "fork", "short", SHORT_LABELS, [(1, 1, "x", "x")]),
    ("agree", "fork", "short", SHORT_LABELS, ((1, 1, "x", "w"),)), ("agree", "fork", "short", SHORT_LABELS, ((1, 3, "x", "x"),)),
    ("agree", "fork", ["short"], SHORT_LABELS, ()), ("agree", {}, "short", SHORT_LABELS, ()), AGREE + (0,), ("shape",) + EQUAL[1:], ("agree",) + EQUAL[1:],
)


def filled(*more):
    """Return a store and a plain one with three programs and what else is applied."""
    store, plain = Store(), Plain()
    for one in (store, plain):
        one.apply(*PROGRAMS)
        for edit in more:
            one.apply(edit)
    return store, plain


class EditsTest(unittest.TestCase):
    def check(self, *edits, before=()):
        """Check that edits do the same as in the plain store: in one group, each in its own, and together with others."""
        for grouped in (True, False):
            store, plain = filled(*before)
            for group in ([edits] if grouped else [(edit,) for edit in edits]):
                self.assertEqual(store.apply(*group), plain.apply(*group))
            same_state(self, store, plain)
            self.assertEqual(store.undo(many=len(store.log())), 0)
            self.assertEqual((store.programs, store.assertions), ({}, ()))
            store.redo(many=len(plain.groups))
            same_state(self, store, plain)
        return store

    def test_put(self):
        self.check(("put", "turn", TURN))
        self.check(("put", "fork", TURN), ("put", "a", make_program(("x",))))
        # Another program in the place of an old one, with a new entry.
        store = self.check(("enter", "fork", Pattern(x=1, y=1, z=1)), ("put", "fork", FORK))
        self.assertEqual(store.entry("fork"), Pattern.free(*NAMES))

    def test_enter(self):
        store = self.check(("enter", "loop", Pattern(x=("a",), y=1)), ("enter", "fork", powers(x=60, y=0, z=0)))
        self.assertEqual(store.entry("loop"), Pattern(x=("a",), y=1))
        store = self.check(("enter", "loop", None), before=(("enter", "loop", Pattern(x=1, y=1)),))
        self.assertEqual(store.entry("loop"), Pattern(x=1, y=2))

    def test_remove(self):
        self.check(("remove", "fork"))
        self.check(("remove", "fork"), ("remove", "loop"), ("remove", "short"))
        self.check(("remove", "fork"), ("put", "fork", LOOP))

    def test_rename(self):
        both = ("agree", "fork", "fork", (0, 1), ((1, 1, "x", "x"),))
        before = [("assert", one) for one in KEPT + (both,)]
        store = self.check(("rename", "fork", "way"), before=before)
        self.assertEqual([one[1] for one in store.assertions], ["loop", "way", "way", "way", "way"])
        self.assertEqual([one[2] for one in store.assertions[3:]], ["short", "way"])
        self.check(("rename", "short", "a"), ("rename", "fork", "short"), ("rename", "a", "fork"), before=before)
        store = self.check(("rename", "fork", "x"), before=before + [("enter", "fork", Pattern(x=1, y=1, z=1))])
        self.assertEqual(store.entry("x"), Pattern(x=1, y=1, z=1))
        # Names of variables and operators are no names of programs.
        self.check(("put", "x", LOOP), ("assert", ("height", "x", 1, "x", 3)), ("rename", "x", "f"), ("assert", ("equal", "f", 1, "y", ("f", "x"))))

    def test_edges(self):
        store = self.check(("edge", "loop", (1, (("y", "x"),), 0)), ("edge", "loop", (1, (("y", "x"),), 0)), ("cut", "loop", 1))
        self.assertEqual(store["loop"][2], (LOOP[2][0], (1, (("y", "x"),), 0), (1, (("y", "x"),), 0)))
        store = self.check(("cut", "fork", 0), ("cut", "fork", 0), before=[("enter", "fork", Pattern(x=1, y=1, z=2))])
        self.assertEqual((store["fork"], store.entry("fork")), ((NAMES, 2, ()), Pattern(x=1, y=1, z=2)))

    def test_optimize(self):
        entry = Pattern(x=("f", 1), y=1, z=1)
        store = self.check(("optimize", "fork", "better", ((1, "x"),)), ("optimize", "better", "best", ()), before=[("enter", "fork", entry)])
        self.assertEqual(store["better"], optimized(FORK, ((1, "x"),), entry=entry))
        self.assertEqual(store["better"][2], ((0, (), 1), (0, (), 1)))
        self.assertEqual(store.entry("better"), entry)

    def test_assert_and_drop(self):
        self.check(*[("assert", one) for one in KEPT + BROKEN])
        self.check(*[("assert", one) for one in KEPT], ("drop", 3), ("drop", 0), ("drop", 1))
        self.check(("assert", EQUAL), ("assert", EQUAL), ("drop", 0))
        self.check(("assert", ("height", "loop", 0, "y", 60)), ("assert", ("height", "loop", 0, "y", 0)), ("assert", ("agree", "fork", "fork", (0, 1), ())))


class ErrorsTest(unittest.TestCase):
    def setUp(self):
        self.store, self.plain = filled(*[("assert", one) for one in KEPT])
        self.store.undo()
        self.store.redo()

    def refuse(self, error, *edits, **attributes):
        """Check that edits are refused, and that nothing changes."""
        before = (self.store.programs, self.store.assertions, self.store.log())
        for call in (lambda: self.store.apply(*edits), lambda: self.store.apply_all(edits), lambda: self.store.trial(edits, None),
                     lambda: self.store.apply(("enter", "loop", None), ("edge", "loop", (0, (), 0)), ("cut", "loop", 2), *edits, None)):
            with self.assertRaises(error) as caught:
                call()
            for name, value in attributes.items():
                self.assertIs(getattr(caught.exception, name), value)
            self.assertEqual((self.store.programs, self.store.assertions, self.store.log()), before)
            same_state(self, self.store, self.plain)

    def test_no_edits(self):
        for value in WRONG_EDITS:
            self.refuse(InvalidEdit, value)
        for value in (None, [], {}, "put", 0, [("put", "a", LOOP)], {"put": LOOP}):
            with self.assertRaises(InvalidEdit):
                self.store.apply_all(value)
            with self.assertRaises(InvalidEdit):
                self.store.trial(value, None)

    def test_names(self):
        for value in WRONG_NAMES:
            self.refuse(InvalidOperation, ("put", value, None))
            self.refuse(InvalidOperation, ("rename", "none", value))
            self.refuse(InvalidOperation, ("optimize", "none", value, None))
        for value in WRONG_NAMES + ("none", "forks"):
            for edit in (("enter", value, 0), ("remove", value), ("rename", value, "loop"), ("edge", value, None), ("cut", value, None),
                         ("optimize", value, "loop", None)):
                self.refuse(UnknownName, edit, name=value)
        for new in ("loop", "fork"):
            self.refuse(InvalidOperation, ("rename", "loop", new))
            self.refuse(InvalidOperation, ("optimize", "loop", new, None))

    def test_parts(self):
        for value in STRANGE + WRONG_PROGRAMS:
            self.refuse(InvalidProgram, ("put", "more", value))
        for value in STRANGE + ((0, (), 2), (0, (("z", "x"),), 1), (0, (), True), (0, ()), [0, (), 1]):
            self.refuse(InvalidProgram, ("edge", "loop", value))
        for value in STRANGE + (Pattern(x=1), Pattern(x=1, y=2, z=3)):
            if value is not None:
                self.refuse(InvalidPattern, ("enter", "loop", value))
        for value in (-1, 2, True, None, "0", (), [0], 10 ** 39):
            self.refuse(InvalidNumber, ("cut", "loop", value), value=value)
        for value in (-1, 4, True, None, "0", (), [0], 10 ** 39):
            self.refuse(InvalidNumber, ("drop", value), value=value)
        for value in (None, [], ((2, "x"),), ((1, "z"),), ((1, "x", 0),), "x", 0):
            self.refuse(InvalidOperation, ("optimize", "loop", "new", value))

    def test_assertions(self):
        for value in WRONG_ASSERTIONS:
            self.refuse(InvalidOperation, ("assert", value))

    def test_an_edge_too_many(self):
        full = program_from(("x",), ((0, (), 0),) * 120)
        self.store.apply(("put", "loop", LOOP), ("put", "full", full))
        self.plain.apply(("put", "loop", LOOP), ("put", "full", full))
        self.refuse(InvalidProgram, ("edge", "full", (0, (), 0)))

    def test_what_optimized_raises(self):
        great = program_from(("x",), tuple((k, (("x", tall(7)),), k + 1) for k in range(59)))
        for one in (self.store, self.plain):
            one.apply(("put", "great", great), ("enter", "great", powers(x=87)))
        self.refuse(TooLarge, ("optimize", "great", "new", ()))
        self.refuse(InvalidOperation, ("optimize", "great", "new", None))
        self.refuse(InvalidOperation, ("optimize", "great", "fork", ()))

    def test_a_ninth_program(self):
        more = [("put", name, LOOP) for name in "abcde"]
        for one in (self.store, self.plain):
            one.apply(*more)
        self.assertEqual(len(self.store), 8)
        with self.assertRaises(TooLarge) as caught:
            self.store.apply(("put", "f", LOOP))
        self.assertEqual(caught.exception.limit, 8)
        with self.assertRaises(TooLarge) as caught:
            self.store.apply(("optimize", "a", "f", ()))
        self.assertEqual(caught.exception.limit, 8)
        for edit, error in ((("put", "f", None), InvalidProgram), (("put", "F", None), InvalidOperation), (("optimize", "a", "f", None), InvalidOperation),
                            (("optimize", "z", "f", None), UnknownName), (("optimize", "a", "b", None), InvalidOperation)):
            with self.assertRaises(error):
                self.store.apply(edit)
        # In the place of an old one, or behind one that is removed, there is room.
        for edits in ((("put", "a", TURN),), (("remove", "a"), ("put", "f", TURN)), (("rename", "f", "a"),)):
            self.store.apply(*edits)
            self.plain.apply(*edits)
        same_state(self, self.store, self.plain)

    def test_a_ninth_program_ahead_of_an_assertion(self):
        # Both a ninth program and an assertion that does not fit any more cannot be at once: a new program changes none.
        self.store.apply(*[("put", name, LOOP) for name in "abcde"])
        with self.assertRaises(TooLarge):
            self.store.apply(("put", "f", TURN))
        with self.assertRaises(InvalidOperation):
            self.store.apply(("put", "loop", make_program(("z",))))

    def test_a_thirteenth_assertion(self):
        for one in (self.store, self.plain):
            one.apply(*[("assert", EQUAL)] * 8)
        with self.assertRaises(TooLarge) as caught:
            self.store.apply(("assert", SHAPE))
        self.assertEqual(caught.exception.limit, 12)
        self.refuse(InvalidOperation, ("drop", 11), ("assert", None))
        with self.assertRaises(InvalidOperation):
            self.store.apply(("assert", ("equal", "loop", 9, "x", "y")))
        self.assertEqual(self.store.apply(("drop", 11), ("assert", SHAPE)), 7)
        with self.assertRaises(TooLarge):
            self.store.apply(("assert", SHAPE), ("drop", 11))

    def test_assertions_that_do_not_survive(self):
        for edits in (
            [("remove", "loop")], [("remove", "fork")], [("remove", "short")], [("put", "loop", make_program(("x",), (0, (), 1)))],
            [("put", "loop", make_program(("x", "y"), size=1))], [("put", "fork", make_program(("y", "z"), (0, (), 1), (0, (), 1)))],
            [("put", "fork", make_program(NAMES, (0, (), 1)))], [("put", "short", FORK)], [("edge", "short", (0, (), 0))], [("cut", "short", 0)],
            [("cut", "fork", 0)], [("cut", "fork", 1)], [("put", "short", make_program(("x",), size=3))],
        ):
            self.refuse(InvalidOperation, *edits)
            # Also if a later edit of the group would make it fit again.
            self.refuse(InvalidOperation, *edits, *PROGRAMS)
        for edits in ([("edge", "fork", (1, (), 0))], [("put", "loop", make_program(("w", "x", "y"), size=2))], [("enter", "loop", None)],
                      [("drop", 3), ("remove", "short")], [("cut", "loop", 0), ("cut", "loop", 0)]):
            store, _ = filled(*[("assert", one) for one in KEPT])
            self.assertEqual(store.apply(*edits), 6)

    def test_order_of_errors(self):
        self.refuse(UnknownName, ("remove", "none"), None)
        self.refuse(InvalidEdit, None, ("remove", "none"))
        self.refuse(InvalidOperation, ("remove", "loop"), ("remove", "none"))
        self.refuse(InvalidOperation, ("optimize", "none", "X", None))
        self.refuse(UnknownName, ("optimize", "none", "loop", None))
        self.refuse(InvalidOperation, ("rename", "none", "X"))
        self.refuse(UnknownName, ("rename", "none", "loop"))
        self.refuse(InvalidOperation, ("assert", DIFFER[:4] + (None,)))
        self.refuse(InvalidProgram, ("put", "loop", None))

    def test_height_of_the_assertion(self):
        for most in (0, 60):
            self.store.apply(("assert", HEIGHT[:4] + (most,)))
        self.assertEqual(self.store.undo(many=2), 5)


if __name__ == "__main__":
    unittest.main()
