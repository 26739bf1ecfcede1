"""[0.11], [3.1], [3.2], stage 3: matches and misfits."""

import itertools
import unittest

from tests.reference import (
    STRANGE, instance_values, matching, numbered, powers, random_term, random_values, rng, shared_form, stepped,
)
from termpaths.base.terms import is_term
from termpaths.errors import InvalidOperation, InvalidPattern
from termpaths.patterns import matching as module
from termpaths.patterns.matching import is_misfit, match, misfit
from termpaths.patterns.patterns import Pattern

DOUBLE = (("x", ("d", "x", "x")),)


def places(name, value):
    """Yield all places of a value with the parts that stand there."""
    yield (name,), value
    if isinstance(value, tuple):
        for index, term in enumerate(value[1:]):
            for place, part in places(name, term):
                yield (name, index) + place[1:], part


def all_misfits(values, others):
    """Return all misfits, by the words of the document."""
    mine = {place: part for name in values for place, part in places(name, values[name])}
    other = {place: part for name in others for place, part in places(name, others[name])}
    both = [place for place in mine if place in other]
    found = set()
    for place in both:
        here, there = mine[place], other[place]
        if isinstance(here, tuple) and (isinstance(there, int) or (here[0], len(here)) != (there[0], len(there))):
            found.add(("sign", place))
    for one, two in itertools.product(both, both):
        if isinstance(mine[one], int) and mine[one] == mine[two] and other[one] != other[two]:
            found.add(("unlike", one, two))
    return found


def changed(one, value):
    """Return a value with terms put for some of its parts, mostly for holes, not for all places alike."""
    if isinstance(value, int):
        return one.choice((value, value, value, value, ("a",), 9))
    if one.randrange(30) == 0:
        return one.choice((8, ("b",), ("q",) + value[1:]))
    return (value[0],) + tuple(changed(one, term) for term in value[1:])


def ordinary(*several):
    return all(is_term(value) for values in several for value in values.values())


class MatchTest(unittest.TestCase):
    def test_ordinary(self):
        p = Pattern(x=7, y=("f", 7, ("g", 3)))
        self.assertEqual(match(Pattern(x=1, y=2), p), {1: 0, 2: 3})
        self.assertEqual(match(Pattern(x=1, y=("f", 1, 2)), p), {1: 0, 2: 2})
        self.assertEqual(match(p, p), {1: 0, 2: 1})
        self.assertIsNone(match(Pattern(x=1, y=1), p))
        self.assertIsNone(match(p, Pattern(x=1, y=2)))

    def test_no_holes(self):
        p = Pattern(x=("a",))
        self.assertEqual(match(p, p), {})
        self.assertIsNone(match(p, Pattern(x=("b",))))

    def test_holes_ascending(self):
        p = Pattern(x=("f", 1, 2, 3), y=("g", 3, 4, 1))
        self.assertEqual(list(match(p, p)), [1, 2, 3, 4])

    def test_random(self):
        for seed in range(300):
            one = rng(seed)
            values = numbered(random_values(one, ("x", "y"), 3, 2))
            others = instance_values(one, values, 2, 1) if seed % 3 else random_values(one, ("x", "y"), 3, 2)
            others = numbered(others)
            if not ordinary(values, others):
                continue
            p, q = Pattern(**values), Pattern(**others)
            put = matching(values, others)
            found = match(p, q)
            if put is None:
                self.assertIsNone(found)
                continue
            rows, _ = shared_form(others)
            self.assertEqual(sorted(found), sorted(put))
            for hole, position in found.items():
                alone = shared_form({"x": put[hole]})
                self.assertEqual(len(rows[position]) if isinstance(rows[position], tuple) else 0,
                                 len(put[hole]) if isinstance(put[hole], tuple) else 0)
                self.assertEqual(part_at(q.rows, position), put[hole])
                self.assertLessEqual(len(alone[0]), position + 1)

    def test_deep(self):
        p = stepped(Pattern(x=1), DOUBLE, 240)
        self.assertEqual(match(p, stepped(Pattern(x=("a",)), DOUBLE, 240)), {1: 0})
        self.assertEqual(match(p, stepped(p, DOUBLE, 100)), {1: 100})
        self.assertIsNone(match(stepped(p, DOUBLE, 1), p))


def part_at(rows, position):
    row = rows[position]
    return row if isinstance(row, int) else (row[0],) + tuple(part_at(rows, inner) for inner in row[1:])


class MisfitTest(unittest.TestCase):
    def test_both_kinds(self):
        p, q = Pattern(x=("f", ("a",), 1)), Pattern(x=("f", 1, 2))
        self.assertEqual(misfit(p, q), ("sign", ("x", 0)))
        self.assertIsNone(misfit(q, p))
        self.assertIn(misfit(Pattern(x=1, y=1), Pattern(x=1, y=2)), (("unlike", ("x",), ("y",)), ("unlike", ("y",), ("x",))))

    def test_another_number_of_terms(self):
        self.assertEqual(misfit(Pattern(x=("f", 1)), Pattern(x=("f", 1, 2))), ("sign", ("x",)))
        self.assertIs(is_misfit(Pattern(x=("f", 1)), Pattern(x=("f", 1, 2)), ("sign", ("x",))), True)

    def test_random(self):
        kinds = {"sign": 0, "unlike": 0}
        for seed in range(400):
            one = rng(seed)
            values = numbered(random_values(one, ("x", "y"), 2, 2))
            others = instance_values(one, values, 2, 1) if seed % 3 else random_values(one, ("x", "y"), 2, 2)
            others = numbered(others)
            if not ordinary(values, others):
                continue
            p, q = Pattern(**values), Pattern(**others)
            expected = all_misfits(values, others)
            found = misfit(p, q)
            self.assertEqual(found is None, q <= p)
            self.assertEqual(found is None, not expected)
            if found is not None:
                self.assertIn(found, expected)
                kinds[found[0]] += 1
            self.check_all(p, q, values, others, expected)
        self.assertGreater(min(kinds.values()), 10)

    def test_first_words(self):
        p, q = Pattern(x=("f", 1), y=("g", 1)), Pattern(x=1, y=("g", 2))
        self.assertIs(is_misfit(p, q, ("sign", ("x",))), True)
        for word in ("unlike", "Sign", "", None, 1, p):
            self.assertIs(is_misfit(p, q, (word, ("x",))), False)
        p, q = Pattern(x=1, y=1), Pattern(x=1, y=2)
        self.assertIs(is_misfit(p, q, ("unlike", ("x",), ("y",))), True)
        for word in ("sign", "Unlike", "", None, 1, p):
            self.assertIs(is_misfit(p, q, (word, ("x",), ("y",))), False)

    def check_all(self, p, q, values, others, expected):
        known = [place for name in values for place, _ in places(name, values[name])]
        known += [place for name in others for place, _ in places(name, others[name])]
        known = known[:12] + [("x", 9), ("z",), ()]
        for place in known:
            self.assertIs(is_misfit(p, q, ("sign", place)), ("sign", place) in expected)
            for other in known:
                self.assertIs(is_misfit(p, q, ("unlike", place, other)), ("unlike", place, other) in expected)
        for value in expected:
            self.assertIs(is_misfit(p, q, value), True)

    def test_unlike_by_way_of_shared_parts(self):
        p = Pattern(x=("f", ("g", 1, 2)), y=("g", 1, 2))
        q = Pattern(x=("f", ("g", ("a",), 1)), y=("g", ("a",), ("b",)))
        self.assertIn(misfit(p, q), (("unlike", ("x", 0, 1), ("y", 1)), ("unlike", ("y", 1), ("x", 0, 1))))
        other = Pattern(x=("f", ("g", 1, 2)), y=("k", 1, 2))
        self.assertEqual(misfit(p, other), ("sign", ("y",)))

    def test_shared_parts_that_differ_further_in(self):
        kinds = {"sign": 0, "unlike": 0}
        for seed in range(1000):
            one = rng(seed)
            inner = random_term(one, [1, 2, 3], 4)
            values = numbered({"x": ("k", inner), "y": inner, "z": ("m", inner, 1)})
            others = {name: changed(one, value) for name, value in values.items()}
            others = numbered(dict(others, z=("m", others["y"], ("c",))) if seed % 2 else others)
            if not ordinary(values, others):
                continue
            p, q = Pattern(**values), Pattern(**others)
            found = misfit(p, q)
            self.assertEqual(found is None, matching(values, others) is not None)
            if found is not None:
                self.assertIn(found, all_misfits(values, others))
                self.assertIs(is_misfit(p, q, found), True)
                kinds[found[0]] += 1 if max(len(place) for place in found[1:]) > 3 else 0
        self.assertGreater(min(kinds.values()), 15)

    def test_deep(self):
        deep = stepped(Pattern(x=1, y=1), DOUBLE, 240)
        other = stepped(Pattern(x=1, y=2), DOUBLE, 240)
        found = misfit(deep, other)
        self.assertEqual(found[0], "unlike")
        self.assertEqual(sorted(len(place) for place in found[1:]), [1, 241])
        self.assertIs(is_misfit(deep, other, found), True)
        self.assertIs(is_misfit(deep, other, (found[0], found[2], found[1])), True)
        path = ("x",) + (0, 1) * 120
        self.assertIs(is_misfit(deep, other, ("unlike", path, ("y",))), True)
        self.assertIs(is_misfit(deep, other, ("unlike", path, ("x",) + (1,) * 240)), False)
        self.assertIs(is_misfit(deep, other, ("unlike", path + (0,), ("y",))), False)
        self.assertIs(is_misfit(deep, other, ("unlike", path[:-1], ("y",))), False)
        self.assertIsNone(misfit(other, deep))
        ends = stepped(Pattern(x=("a",), y=("a",)), DOUBLE, 240), stepped(Pattern(x=("b",), y=("a",)), DOUBLE, 240)
        found = misfit(*ends)
        self.assertEqual((found[0], len(found[1])), ("sign", 241))
        self.assertIs(is_misfit(*ends, found), True)

    def test_long_chains(self):
        p, q = powers(x=499), powers(x=498)
        self.assertEqual(misfit(p, q), ("sign", ("x",) + (0,) * 498))
        self.assertIsNone(misfit(q, p))
        self.assertIs(is_misfit(p, q, ("sign", ("x",) + (0,) * 498)), True)
        self.assertIs(is_misfit(p, q, ("sign", ("x",) + (0,) * 497)), False)
        self.assertIs(is_misfit(p, q, ("sign", ("x",) + (0,) * 499)), False)
        self.assertIs(is_misfit(p, q, ("sign", ("x",) + (0,) * 90000)), False)

    def test_other_values(self):
        p, q = Pattern(x=("f", 1, 1), y=1), Pattern(x=("f", 1, 2), y=("a",))
        good = ("unlike", ("x", 0), ("x", 1))
        self.assertIs(is_misfit(p, q, good), True)
        for value in STRANGE + (
            list(good), good[:2], good + (("x",),), ("sign",), ("sign", ("x",), ("x",)), ("unlike", ("x", 0), ["x", 1]),
            ("unlike", ("x", False), ("x", True)), ("unlike", ("x", 0), ("x", -1)), ("unlike", ("x", 0), ("x", 2)),
            ("unlike", ("x", 0), ("x", 10 ** 39)), ("unlike", ("x", 0), ("x", "1")), ("unlike", ("x", 0), ("z",)),
            ("unlike", ("x", 0), ()), ("unlike", ("x", 0), "x"), ("Unlike", ("x", 0), ("x", 1)), ("sign", ("x", 0)),
            ("unlike", ("x", 0), ("x", 0)), ("unlike", (["x"], 0), ("x", 1)), ("unlike", ({}, 0), ("x", 1)),
            ("unlike", ("x", 0), ("x", None)), (p, q), (p, ("x",)), ("sign", p), "sign", None,
        ):
            self.assertIs(is_misfit(p, q, value), False, value)


class ErrorsTest(unittest.TestCase):
    def test_errors(self):
        p = Pattern(x=1)
        calls = (match, misfit, lambda p, q: is_misfit(p, q, None))
        for value in STRANGE:
            if value == p:
                continue
            for call in calls:
                with self.assertRaises(InvalidPattern):
                    call(p, value)
                with self.assertRaises(InvalidPattern):
                    call(value, Pattern(y=1))
        for call in calls:
            for q in (Pattern(y=1), Pattern(x=1, y=1)):
                with self.assertRaises(InvalidOperation):
                    call(p, q)
                with self.assertRaises(InvalidOperation):
                    call(q, p)

    def test_defined_there(self):
        for name in ("match", "misfit", "is_misfit"):
            self.assertEqual(getattr(module, name).__module__, "termpaths.patterns.matching")


if __name__ == "__main__":
    unittest.main()
