"""[4.1], [4.2], stage 4: common patterns."""

import itertools
import unittest

from tests.reference import STRANGE, instance_values, joint, numbered, powers, random_values, rng, stepped
from termpaths.base.terms import is_term
from termpaths.errors import InvalidOperation, InvalidPattern, TooLarge
from termpaths.patterns import common as module
from termpaths.patterns.common import common, common_of, differences, is_common, is_common_of
from termpaths.patterns.patterns import Pattern

DOUBLE = (("x", ("d", "x", "x")),)


def some_patterns(seed, many):
    """Return values of some patterns that have something in common, or None if one is too large."""
    one = rng(seed)
    values = random_values(one, ("x", "y"), 3, 2)
    several = [numbered(instance_values(one, values, 2, 1)) for _ in range(many)]
    return several if all(is_term(value) for values in several for value in values.values()) else None


class CommonTest(unittest.TestCase):
    def test_ordinary(self):
        p = Pattern(x=("a",), y=("f", ("a",)))
        q = Pattern(x=("b",), y=("f", ("b",)))
        r = Pattern(x=("b",), y=("f", ("c",)))
        self.assertEqual(common(p), p)
        self.assertEqual(common(p, q), Pattern(x=1, y=("f", 1)))
        self.assertEqual(common(p, q, r), Pattern(x=1, y=("f", 2)))
        self.assertEqual(common_of((p, q, p)), Pattern(x=1, y=("f", 1)))

    def test_two_places_with_one_hole(self):
        p = Pattern(x=("f", ("a",), ("a",)), y=("a",))
        q = Pattern(x=("f", ("b",), ("b",)), y=("c",))
        self.assertEqual(common(p, q), Pattern(x=("f", 1, 1), y=2))

    def test_orders_and_repeats(self):
        for many in range(1, 6):
            for seed in range(12):
                several = some_patterns(100 * many + seed, many)
                if several is None:
                    continue
                patterns = [Pattern(**values) for values in several]
                expected = Pattern(**joint(*several))
                for order in list(itertools.permutations(patterns))[:24]:
                    self.assertEqual(common(*order), expected)
                    self.assertEqual(common_of(order + order[:2]), expected)
                self.assertIs(is_common(expected, *patterns), True)
                self.assertIs(is_common_of(expected, tuple(patterns + patterns[:1])), True)
                for p in patterns:
                    self.assertLessEqual(p, expected)

    def test_doubled(self):
        several = [stepped(Pattern(x=(operator,), y=(operator,)), DOUBLE, 60) for operator in "abc"]
        expected = stepped(Pattern(x=1, y=1), DOUBLE, 60)
        self.assertEqual(common(*several), expected)
        self.assertIs(is_common(expected, *several), True)
        self.assertIs(is_common(stepped(Pattern(x=1, y=2), DOUBLE, 60), *several), False)

    def test_errors(self):
        p = Pattern(x=1)
        for value in STRANGE:
            if value == p:
                continue
            for call in (lambda: common(value), lambda: common(p, Pattern(y=1), value), lambda: common_of((p, value)),
                         lambda: is_common(p, value), lambda: is_common(p, p, Pattern(y=1), value),
                         lambda: is_common_of(p, (p, value)), lambda: differences(p, value),
                         lambda: differences(value, p)):
                with self.assertRaises(InvalidPattern):
                    call()
        for value in ((), [p], p, None, "x", 3, {p.names: 1}, True):
            with self.assertRaises(InvalidPattern):
                common_of(value)
            with self.assertRaises(InvalidPattern):
                is_common_of(p, value)
        with self.assertRaises(InvalidPattern):
            is_common(p)

    def test_other_names(self):
        p, q = Pattern(x=1), Pattern(y=1)
        for call in (lambda: common(p, q), lambda: common(p, p, q), lambda: common_of((p, q)), lambda: differences(p, q),
                     lambda: is_common(p, p, q), lambda: is_common_of(None, (p, q)),
                     lambda: common(powers(x=300, y=250), powers(x=300, y=199), p)):
            with self.assertRaises(InvalidOperation):
                call()

    def test_weights(self):
        p, q, r = powers(x=300, y=250), powers(x=300, y=198), powers(x=300, y=199)
        self.assertEqual(common(p, q).weight, 500)
        small = Pattern(x=("a",), y=1)
        # The common pattern of all is small, but that of the first two is not.
        for call in (lambda: common(p, r), lambda: common_of((p, r)), lambda: common(p, r, small),
                     lambda: differences(p, r)):
            with self.assertRaises(TooLarge) as caught:
                call()
            self.assertEqual(caught.exception.limit, 500)
        self.assertEqual(common(p, small, r), Pattern(x=1, y=2))
        self.assertIs(is_common(Pattern(x=1, y=2), p, r, small), True)
        self.assertIs(is_common(Pattern(x=1, y=1), p, r, small), False)
        self.assertIs(is_common(Pattern(x=1, y=2), p, r), False)


class JudgeTest(unittest.TestCase):
    def test_nearly_right(self):
        p, q = Pattern(x=("f", ("a",), ("a",)), y=("g", 1)), Pattern(x=("f", ("b",), ("b",)), y=("g", 1))
        self.assertIs(is_common(Pattern(x=("f", 1, 1), y=("g", 2)), p, q), True)
        for wrong in (
            Pattern(x=("f", 1, 2), y=("g", 3)), Pattern(x=1, y=("g", 2)), Pattern(x=("f", 1, 1), y=2), Pattern(x=1, y=2),
            Pattern(x=("f", 1, 1), y=("g", 1)), Pattern(x=("f", ("a",), ("a",)), y=("g", 1)),
            Pattern(x=("f", 1, 1), y=("h", 2)), Pattern(x=("f", 1, 1), z=("g", 2)), Pattern(x=("f", 1, 1)), p, q,
        ):
            self.assertIs(is_common(wrong, p, q), False)
        for value in STRANGE + ((p,), [p], "pattern"):
            self.assertIs(is_common(value, p, q), False)
        self.assertIs(is_common(p, p), True)
        self.assertIs(is_common(Pattern(x=1, y=2), p), False)
        self.assertIs(is_common(Pattern(x=("f", 1, 1), y=("g", 2)), p), False)

    def test_one_pattern(self):
        p = Pattern(x=1, y=("f", 1, 2))
        self.assertIs(is_common(p, p), True)
        self.assertIs(is_common(p, p, p), True)
        self.assertIs(is_common(Pattern(x=1, y=("f", 2, 3)), p), False)

    def test_operators_with_other_numbers_of_terms(self):
        p, q = Pattern(x=("f", 1)), Pattern(x=("f", 1, 2))
        self.assertIs(is_common(Pattern(x=1), p, q), True)
        self.assertIs(is_common(Pattern(x=1), p, p), False)

    def test_random(self):
        found = {True: 0, False: 0}
        for seed in range(300):
            several = some_patterns(seed, 1 + seed % 3)
            if several is None:
                continue
            patterns = [Pattern(**values) for values in several]
            right = joint(*several)
            one = rng(seed)
            for value in (Pattern(**right), Pattern(**random_values(one, ("x", "y"), 2, 2)), changed(one, right)):
                self.assertIs(is_common(value, *patterns), value == Pattern(**right))
                found[value == Pattern(**right)] += 1
        self.assertGreater(min(found.values()), 50)


def changed(one, values):
    """Return the pattern of some values with one of its holes made another one, or parted."""
    def change(value):
        if isinstance(value, int):
            return one.choice((value, value, 1, 2, 9, ("a",)))
        return (value[0],) + tuple(change(term) for term in value[1:])

    return Pattern(**{name: change(value) for name, value in values.items()})


class DifferencesTest(unittest.TestCase):
    def test_ordinary(self):
        p = Pattern(x=("a",), y=("f", ("a",), 1))
        q = Pattern(x=("b",), y=("f", ("b",), ("c",)))
        self.assertEqual(p | q, Pattern(x=1, y=("f", 1, 2)))
        self.assertEqual(differences(p, q), {1: (0, 0), 2: (1, 1)})
        self.assertEqual(list(differences(p, q)), [1, 2])
        self.assertEqual(differences(Pattern(x=("a",)), Pattern(x=("a",))), {})
        self.assertEqual(differences(Pattern(x=("f", 1)), Pattern(x=1)), {1: (1, 0)})

    def test_random(self):
        for seed in range(100):
            several = some_patterns(seed, 2)
            if several is None:
                continue
            p, q = [Pattern(**values) for values in several]
            found = differences(p, q)
            self.assertEqual(sorted(found), list(range(1, (p | q).holes + 1)))
            self.assertEqual(len(set(found.values())), len(found))
            for one, other in found.values():
                row, opposite = p.rows[one], q.rows[other]
                if isinstance(row, tuple) and isinstance(opposite, tuple):
                    self.assertNotEqual((row[0], len(row)), (opposite[0], len(opposite)))


class FileTest(unittest.TestCase):
    def test_defined_there(self):
        for name in ("common", "common_of", "is_common", "is_common_of", "differences"):
            self.assertEqual(getattr(module, name).__module__, "termpaths.patterns.common")


if __name__ == "__main__":
    unittest.main()
