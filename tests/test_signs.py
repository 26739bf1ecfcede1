"""[3.1], [4.1], [5.1]: the signs of patterns: <=, <, >=, >, | and &."""

import unittest

from tests.reference import (
    STRANGE, deep, holed, instance_values, joint, matching, numbered, powers, random_values, rng, stepped, unified,
)
from termpaths.base.terms import is_term
from termpaths.errors import InvalidOperation, InvalidPattern, TooLarge
from termpaths.patterns.patterns import Pattern

SIGNS = {
    "<=": lambda p, q: p <= q, "<": lambda p, q: p < q, ">=": lambda p, q: p >= q, ">": lambda p, q: p > q,
    "|": lambda p, q: p | q, "&": lambda p, q: p & q,
}
DOUBLE = (("x", ("d", "x", "x")),)


def all_signs(q, p):
    """Return what the signs of order tell: whether q is an instance of p, and a different one."""
    return [q <= p, p >= q], [q < p, p > q]


def ordinary(values):
    return all(is_term(value) for value in values.values())


class InstanceTest(unittest.TestCase):
    def check(self, q, p, instance):
        self.assertEqual(all_signs(q, p), ([instance] * 2, [instance and q != p] * 2))

    def test_ordinary(self):
        general = Pattern.free("x", "y")
        special = Pattern(x=("a",), y=("f", ("a",)))
        between = Pattern(x=1, y=("f", 1))
        for q, p in ((special, general), (between, general), (special, between)):
            self.check(q, p, True)
            self.check(p, q, False)
        for p in (general, special, between):
            self.check(p, p, True)
            self.check(Pattern.of({name: p[name] for name in p.names}), p, True)

    def test_two_holes_made_one(self):
        self.check(Pattern(x=1, y=1), Pattern(x=1, y=2), True)
        self.check(Pattern(x=1, y=2), Pattern(x=1, y=1), False)
        self.check(Pattern(x=("f", 1, 2)), Pattern(x=("f", 1, 1)), False)

    def test_terms_for_holes(self):
        p = Pattern(x=("f", 1, 2), y=1)
        self.check(Pattern(x=("f", ("a",), 1), y=("a",)), p, True)
        self.check(Pattern(x=("f", ("a",), 1), y=("b",)), p, False)
        self.check(Pattern(x=("f", 1), y=1), p, False)
        self.check(Pattern(x=("g", 1, 2), y=1), p, False)

    def test_not_comparable(self):
        self.check(Pattern(x=1, y=("a",)), Pattern(x=("a",), y=1), False)
        self.check(Pattern(x=("a",), y=1), Pattern(x=1, y=("a",)), False)

    def test_random(self):
        for seed in range(300):
            one = rng(seed)
            values = random_values(one, ("x", "y"), 2, 2)
            others = instance_values(one, values, 2, 1) if seed % 2 else random_values(one, ("x", "y"), 2, 2)
            if ordinary(values) and ordinary(others):
                p, q = Pattern(**values), Pattern(**others)
                self.check(q, p, matching(values, others) is not None)
                self.check(p, q, matching(others, values) is not None)
                self.assertIs(p <= q and q <= p, p == q)

    def test_doubled(self):
        p = stepped(Pattern(x=1), DOUBLE, 40)
        q = stepped(Pattern(x=("a",)), DOUBLE, 40)
        self.check(q, p, True)
        self.check(p, q, False)
        self.check(stepped(p, DOUBLE, 1), p, True)
        self.check(p, stepped(p, DOUBLE, 1), False)


class CommonTest(unittest.TestCase):
    def test_ordinary(self):
        found = Pattern(x=("a",), y=("f", ("a",))) | Pattern(x=("b",), y=("f", ("b",)))
        self.assertEqual(found, Pattern(x=1, y=("f", 1)))
        self.assertEqual(Pattern(x=1, y=1) | Pattern(x=1, y=2), Pattern(x=1, y=2))
        self.assertEqual(Pattern(x=("f", 1)) | Pattern(x=("f", 1, 2)), Pattern(x=1))
        self.assertEqual(Pattern(x=("f", 1, 1)) | Pattern(x=("f", 1, ("a",))), Pattern(x=("f", 1, 2)))

    def test_equal(self):
        for p in (Pattern(x=1), Pattern(x=("f", 1, ("a",)), y=1), powers(x=499)):
            self.assertEqual(p | p, p)

    def test_random(self):
        for seed in range(300):
            one = rng(seed)
            values = random_values(one, ("x", "y"), 2, 2)
            others = random_values(one, ("x", "y"), 2, 2)
            if seed % 2:
                values, others = instance_values(one, values, 2, 1), instance_values(one, values, 2, 1)
            if ordinary(values) and ordinary(others):
                p, q = Pattern(**values), Pattern(**others)
                self.assertEqual(p | q, Pattern(**joint(numbered(values), numbered(others))))
                self.assertEqual(p | q, q | p)
                self.assertTrue(p <= p | q and q <= p | q)

    def test_doubled(self):
        p = stepped(Pattern(x=("a",), y=1), DOUBLE, 40)
        q = stepped(Pattern(x=1, y=1), DOUBLE, 40)
        found = p | q
        self.assertEqual(found, stepped(Pattern(x=1, y=2), DOUBLE, 40))
        self.assertEqual(found.size("x"), 2 ** 41 - 1)

    def test_weights(self):
        # The pairs of parts of x are one chain, those of y another one.
        p = powers(x=300, y=250)
        self.assertEqual((p | powers(x=300, y=52)).weight, 301 + 53)
        self.assertEqual((p | powers(x=300, y=198)).weight, 500)
        with self.assertRaises(TooLarge) as caught:
            p | powers(x=300, y=199)
        self.assertEqual(caught.exception.limit, 500)


class MostGeneralTest(unittest.TestCase):
    def test_ordinary(self):
        self.assertEqual(Pattern(x=1, y=("f", 2)) & Pattern(x=("a",), y=1), Pattern(x=("a",), y=("f", 1)))
        self.assertEqual(Pattern(x=1, y=1) & Pattern(x=1, y=("f", 2)), Pattern(x=("f", 1), y=("f", 1)))
        self.assertEqual(Pattern(x=1, y=("f", 1)) & Pattern(x=("g", 1), y=2), Pattern(x=("g", 1), y=("f", ("g", 1))))

    def test_holes_of_both_are_different(self):
        self.assertEqual(Pattern(x=1, y=("f", 2)) & Pattern(x=("f", 1), y=2), Pattern(x=("f", 1), y=("f", 2)))

    def test_no_common_instance(self):
        for p, q in (
            (Pattern(x=("a",)), Pattern(x=("b",))), (Pattern(x=("f", 1)), Pattern(x=("f", 1, 2))),
            (Pattern(x=1, y=1), Pattern(x=("a",), y=("b",))), (Pattern(x=1, y=("f", 1)), Pattern(x=1, y=1)),
            (Pattern(x=1, y=("f", 1)), Pattern(x=("g", 1), y=1)),
            (Pattern(x=1, y=("f", 2), z=2), Pattern(x=1, y=1, z=1)),
        ):
            self.assertIsNone(p & q)
            self.assertIsNone(q & p)

    def test_equal(self):
        for p in (Pattern(x=1), Pattern(x=("f", 1, ("a",)), y=1), powers(x=499)):
            self.assertEqual(p & p, p)

    def test_random(self):
        found = 0
        for seed in range(400):
            one = rng(seed)
            values = random_values(one, ("x", "y"), 3, 2)
            others = random_values(one, ("x", "y"), 3, 2)
            if not ordinary(values) or not ordinary(others):
                continue
            p, q = Pattern(**values), Pattern(**others)
            behind = {name: shifted(value) for name, value in others.items()}
            put = unified([(values[name], behind[name]) for name in values])
            if put is None:
                self.assertIsNone(p & q)
                continue
            found += 1
            result = p & q
            expected = holed({name: deep(values[name], put) for name in values})
            if ordinary(expected):
                self.assertEqual(result, Pattern(**expected))
            self.assertEqual(result, q & p)
            self.assertTrue(result <= p and result <= q)
        self.assertGreater(found, 50)

    def test_doubled(self):
        p = stepped(Pattern(x=("a",), y=1), DOUBLE, 40)
        q = stepped(Pattern(x=1, y=1), DOUBLE, 40)
        self.assertEqual(p & q, stepped(Pattern(x=("a",), y=("a",)), DOUBLE, 40))
        self.assertIsNone(p & stepped(Pattern(x=("b",), y=1), DOUBLE, 40))
        # One hole is within the other, forty times deep.
        self.assertIsNone(q & Pattern(x=1, y=1))

    def test_weights(self):
        p = powers(x=300, y=0).only("x").beside(Pattern(y=1))
        self.assertEqual((p & Pattern(x=1, y=1)).weight, 301)
        wide = powers(x=250)
        self.assertEqual((wide.beside(Pattern(y=1)) & powers(y=248).beside(Pattern(x=1))).weight, 251 + 249)
        with self.assertRaises(TooLarge) as caught:
            wide.beside(Pattern(y=1)) & powers(y=249).beside(Pattern(x=1))
        self.assertEqual(caught.exception.limit, 500)

    def test_no_error_of_size_without_an_instance(self):
        p = powers(x=249).beside(Pattern(y=1, z=("a",)))
        q = powers(y=249).beside(Pattern(x=1, z=2))
        with self.assertRaises(TooLarge):
            p & q
        self.assertIsNone(p & q.only("x", "y").beside(Pattern(z=("b",))))
        p = powers(x=300).beside(Pattern(y=1, z=2, w=("f", 2)))
        self.assertIsNone(p & powers(y=300).beside(Pattern(x=1, z=2, w=2)))
        with self.assertRaises(TooLarge):
            p & powers(y=300).beside(Pattern(x=1, z=2, w=3))


def shifted(value):
    if isinstance(value, int):
        return value + 100
    return (value[0],) + tuple(shifted(term) for term in value[1:])


class ErrorsTest(unittest.TestCase):
    def test_no_patterns(self):
        p = Pattern(x=1)
        for value in STRANGE + (("solved", p), [p]):
            if value == p:
                continue
            for sign, call in SIGNS.items():
                with self.assertRaises(InvalidPattern, msg=sign):
                    call(p, value)
                with self.assertRaises(InvalidPattern, msg=sign):
                    call(value, p)

    def test_other_names(self):
        for p, q in ((Pattern(x=1), Pattern(y=1)), (Pattern(x=1, y=2), Pattern(x=1))):
            for sign, call in SIGNS.items():
                with self.assertRaises(InvalidOperation, msg=sign):
                    call(p, q)
                with self.assertRaises(InvalidOperation, msg=sign):
                    call(q, p)

    def test_patterns_stay(self):
        p, q = Pattern(x=("f", 1), y=1), Pattern(x=("f", 1), y=2)
        for call in SIGNS.values():
            call(p, q)
            call(q, p)
        self.assertEqual([p.rows, q.rows, p.places, q.places], [(1, ("f", 0)), (1, ("f", 0), 2), {"x": 1, "y": 0}, {"x": 1, "y": 2}])


class TruthsTest(unittest.TestCase):
    def test_no_distributive_law(self):
        # [0.18]: p | (q & r) need not be (p | q) & (p | r).
        p, q, r = Pattern(x=("a",), y=("a",)), Pattern(x=1, y=("b",)), Pattern(x=("b",), y=1)
        self.assertEqual(p | (q & r), Pattern(x=1, y=1))
        self.assertEqual((p | q) & (p | r), Pattern(x=1, y=2))


if __name__ == "__main__":
    unittest.main()
