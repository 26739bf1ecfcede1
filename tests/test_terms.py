"""[0.8], [0.9], [1.1], stage 1: terms."""

import copy
import itertools
import unittest

from tests.reference import STRANGE, nested, parts, random_term, rng, tall, wide, written
from termpaths.base import terms as module
from termpaths.base.terms import (
    MAX_HEIGHT, MAX_HOLE, MAX_SIZE, height_of, holes_in, is_name, is_term, make_term, names_in, operators_in,
    parts_of, put, put_by, size_of, sorted_terms, term_from, text_of,
)
from termpaths.errors import InvalidTerm, TooLarge
from termpaths.patterns.patterns import Pattern

ONE_TERM = (names_in, holes_in, operators_in, size_of, height_of, text_of, lambda term: list(parts_of(term)))


def height(term):
    return 1 + max(height(inner) for inner in term[1:]) if isinstance(term, tuple) and len(term) > 1 else 0


class NamesAndTermsTest(unittest.TestCase):
    def test_constants(self):
        self.assertEqual((MAX_SIZE, MAX_HEIGHT, MAX_HOLE), (60, 7, 500))

    def test_names(self):
        for name in ("a", "z", "xy", "abcdefgh", "term", "self", "zzzzzzzz"):
            self.assertIs(is_name(name), True)
        for value in STRANGE + ("abcdefghi", "aB", "a_", "a ", " a", "a\n", "1", ("a",), b"a", 1):
            self.assertIs(is_name(value), False, value)

    def test_leaves(self):
        for value in ("x", "abcdefgh", 1, 2, 500, ("a",), ("f", 1), ("f", "x", 500, ("a",))):
            self.assertIs(is_term(value), True, value)
        for value in STRANGE + ("abcdefghi", 501, ("abcdefghi",), ("f", 501), ("f", False), 10 ** 40, nested(20)):
            self.assertIs(is_term(value), False, value)

    def test_number_of_terms(self):
        for many in range(4):
            self.assertIs(is_term(("f",) + ("x",) * many), True)
        self.assertIs(is_term(("f",) + ("x",) * 4), False)

    def test_size_limit(self):
        for leaf in ("x", 7, ("a",)):
            self.assertIs(is_term(wide(60, leaf)), True)
            self.assertIs(is_term(wide(61, leaf)), False)
        self.assertEqual(size_of(wide(60)), 60)

    def test_height_limit(self):
        for leaf in ("x", 7, ("a",)):
            self.assertIs(is_term(tall(7, leaf)), True)
            self.assertIs(is_term(tall(8, leaf)), False)
            self.assertEqual(height_of(tall(7, leaf)), 7)
        self.assertIs(is_term(("f", "x", tall(6), ("a",))), True)
        self.assertIs(is_term(("f", "x", tall(7), ("a",))), False)

    def test_great_values_are_no_terms(self):
        many = tuple("f" for _ in range(100000))
        self.assertIs(is_term(many), False)
        doubled = "x"
        for _ in range(16):
            doubled = ("f", doubled, doubled)
        self.assertIs(is_term(doubled), False)
        self.assertIs(is_name("a" * 100000), False)

    def test_patterns_are_no_terms(self):
        self.assertIs(is_term(Pattern(x=1)), False)
        self.assertIs(is_term(("f", Pattern(x=1))), False)
        self.assertIs(is_term(parts_of("x")), False)


class MakeTermTest(unittest.TestCase):
    def test_ordinary(self):
        self.assertEqual(make_term("a"), ("a",))
        self.assertEqual(make_term("f", "x", 3), ("f", "x", 3))
        self.assertEqual(term_from("f", ("x", ("g", "y"), 500)), ("f", "x", ("g", "y"), 500))
        self.assertEqual(term_from("f", ()), ("f",))

    def test_invalid(self):
        for value in STRANGE + ("abcdefghi", 1, ("f",)):
            with self.assertRaises(InvalidTerm):
                make_term(value, "x")
            with self.assertRaises(InvalidTerm):
                term_from(value, ("x",))
        for value in STRANGE:
            with self.assertRaises(InvalidTerm):
                make_term("f", "x", value)
            with self.assertRaises(InvalidTerm):
                term_from("f", (value, "x"))
            if not isinstance(value, tuple):
                with self.assertRaises(InvalidTerm):
                    term_from("f", value)
        for value in ("x", ["x"], {"x": 1}, None, 3):
            with self.assertRaises(InvalidTerm):
                term_from("f", value)
        with self.assertRaises(InvalidTerm):
            make_term("f", "x", "x", "x", "x")
        with self.assertRaises(InvalidTerm):
            make_term("f", wide(61))
        with self.assertRaises(InvalidTerm):
            make_term("f", tall(8))

    def test_too_large(self):
        self.assertEqual(size_of(make_term("f", wide(29), wide(30))), 60)
        for call in (lambda: make_term("f", wide(30), wide(30)), lambda: make_term("f", wide(59), tall(7))):
            with self.assertRaises(TooLarge) as caught:
                call()
            self.assertEqual(caught.exception.limit, 60)
        self.assertEqual(height_of(make_term("f", tall(6))), 7)
        with self.assertRaises(TooLarge) as caught:
            make_term("f", "x", tall(7))
        self.assertEqual(caught.exception.limit, 7)

    def test_order_of_errors(self):
        with self.assertRaises(InvalidTerm):
            make_term("f", wide(60), wide(60), None)
        with self.assertRaises(InvalidTerm):
            make_term("F", wide(60), wide(60))
        with self.assertRaises(InvalidTerm):
            make_term("f", wide(60), wide(60), "x", "x")


class ReadTermTest(unittest.TestCase):
    def test_ordinary(self):
        term = ("f", "y", ("g", 12, ("f", "x"), 3), ("a",))
        self.assertEqual(names_in(term), ("x", "y"))
        self.assertEqual(holes_in(term), (3, 12))
        self.assertEqual(operators_in(term), (("a", 0), ("f", 1), ("f", 3), ("g", 3)))
        self.assertEqual(size_of(term), 8)
        self.assertEqual(height_of(term), 3)
        self.assertEqual(text_of(term), "f(y, g(12, f(x), 3), a())")

    def test_leaves(self):
        self.assertEqual([call("x") for call in ONE_TERM], [("x",), (), (), 1, 0, "x", ["x"]])
        self.assertEqual([call(12) for call in ONE_TERM], [(), (12,), (), 1, 0, "12", [12]])
        self.assertEqual([call(("a",)) for call in ONE_TERM], [(), (), (("a", 0),), 1, 0, "a()", [("a",)]])

    def test_one_operator_with_other_numbers_of_terms(self):
        term = ("f", ("f", ("ff",), "x"), ("fa", 1), ("f",))
        self.assertEqual(operators_in(term), (("f", 0), ("f", 2), ("f", 3), ("fa", 1), ("ff", 0)))

    def test_holes_are_sorted_as_numbers(self):
        self.assertEqual(holes_in(("f", 100, 20, ("g", 3, 20))), (3, 20, 100))

    def test_errors(self):
        for value in STRANGE + (wide(61), tall(8), nested(20)):
            for call in ONE_TERM:
                with self.assertRaises(InvalidTerm):
                    call(value)

    def test_random(self):
        for seed in range(200):
            term = random_term(rng(seed), ["x", "y", "z", 3, 10], 3)
            if not is_term(term):
                continue
            self.assertEqual(size_of(term), written(term))
            self.assertEqual(height_of(term), height(term))
            self.assertEqual(list(parts_of(term)), parts(term))
            self.assertEqual(names_in(term), tuple(sorted(p for p in parts(term) if isinstance(p, str))))
            self.assertEqual(holes_in(term), tuple(sorted(p for p in parts(term) if isinstance(p, int))))
            signs = {(p[0], len(p) - 1) for p in parts(term) if isinstance(p, tuple)}
            self.assertEqual(operators_in(term), tuple(sorted(signs)))


class PartsTest(unittest.TestCase):
    def test_order(self):
        term = ("f", ("g", "x"), "y", ("g", ("g", "x")))
        self.assertEqual(list(parts_of(term)), ["x", ("g", "x"), "y", ("g", ("g", "x")), term])

    def test_errors_at_the_first_result(self):
        steps = parts_of(None)
        with self.assertRaises(InvalidTerm):
            next(steps)

    def test_taken_in_part_and_twice(self):
        term = ("f", "x", ("g", "x"))
        one = parts_of(term)
        self.assertEqual(next(one), "x")
        other = parts_of(term)
        self.assertEqual([next(other), next(one), next(other)], ["x", ("g", "x"), ("g", "x")])
        self.assertEqual([list(one), list(other), list(one)], [[term], [term], []])


class SortedTermsTest(unittest.TestCase):
    def test_height_size_text(self):
        terms = (("f", "x"), ("f", "x", "x"), "y", ("a",), "x", 10, 9, ("f", ("a",)), ("e", "x", "x"), tall(7), wide(60))
        found = sorted_terms(terms)
        self.assertEqual(found[:5], (10, 9, ("a",), "x", "y"))
        self.assertEqual(found[5:9], (("f", ("a",)), ("f", "x"), ("e", "x", "x"), ("f", "x", "x")))
        self.assertEqual(found[9:], (wide(60), tall(7)))

    def test_sizes_are_sorted_as_numbers(self):
        small = ("f", ("w", "x", "x", "x"), ("w", "x", "x"), "x")
        great = ("a", ("w", "x", "x", "x"), ("w", "x", "x", "x"), "x")
        self.assertEqual([size_of(small), size_of(great)], [9, 10])
        self.assertEqual(sorted_terms((great, small)), (small, great))

    def test_repeats_and_orders(self):
        terms = ("x", ("f", "x"), "x", ("g", 1, 2))
        for order in itertools.permutations(terms):
            self.assertEqual(sorted_terms(order), ("x", "x", ("f", "x"), ("g", 1, 2)))
        self.assertEqual(sorted_terms(()), ())

    def test_random(self):
        terms = [random_term(rng(seed), ["x", "y", 3, 10], 2) for seed in range(150)]
        terms = tuple(term for term in terms if is_term(term))
        plain = sorted(terms, key=lambda term: (height(term), written(term), text_of(term)))
        self.assertEqual(sorted_terms(terms), tuple(plain))

    def test_errors(self):
        for value in ("x", ["x"], None, {"x": 1}, 3, True):
            with self.assertRaises(InvalidTerm):
                sorted_terms(value)
        for value in STRANGE:
            with self.assertRaises(InvalidTerm):
                sorted_terms(("x", value))


class PutTest(unittest.TestCase):
    def test_ordinary(self):
        self.assertEqual(put(("f", "x", "y"), x="y", y=("g", "x")), ("f", "y", ("g", "x")))
        self.assertEqual(put(("f", "x", 3, ("x",)), x=7), ("f", 7, 3, ("x",)))
        self.assertEqual(put("x", x=("a",), zz="x"), ("a",))
        self.assertEqual(put(("f", "x")), ("f", "x"))
        self.assertEqual(put_by(("f", "term"), {"term": "self"}), ("f", "self"))
        self.assertEqual(put(("f", "self"), self="x"), ("f", "x"))

    def test_operators_stay(self):
        self.assertEqual(put(("x", "x", ("y", "y")), x="y", y="x"), ("x", "y", ("y", "x")))

    def test_errors(self):
        for value in STRANGE:
            with self.assertRaises(InvalidTerm):
                put(value, x="y")
            with self.assertRaises(InvalidTerm):
                put_by(value, {})
            with self.assertRaises(InvalidTerm):
                put("x", y=value)
            with self.assertRaises(InvalidTerm):
                put_by("x", {"x": "y", "z": value})
        for value in (None, (), [], (("x", "y"),), "x", {1: "x"}, {"X": "x"}, {"abcdefghi": "x"}, {(): "x"}):
            with self.assertRaises(InvalidTerm):
                put_by("x", value)
        with self.assertRaises(InvalidTerm):
            put("x", X="y")

    def test_too_large(self):
        self.assertEqual(size_of(put(("f", "x", "y"), x=wide(29), y=wide(30))), 60)
        with self.assertRaises(TooLarge) as caught:
            put(("f", "x", "y"), x=wide(30), y=wide(30))
        self.assertEqual(caught.exception.limit, 60)
        self.assertEqual(put(tall(3), x=tall(4)), tall(7))
        with self.assertRaises(TooLarge) as caught:
            put(tall(4), x=tall(4))
        self.assertEqual(caught.exception.limit, 7)
        with self.assertRaises(TooLarge) as caught:
            put(("f", "x", "x", "x"), x=make_term("f", tall(6), wide(40)))
        self.assertEqual(caught.exception.limit, 60)
        with self.assertRaises(InvalidTerm):
            put(tall(4), x=tall(4), y=None)
        with self.assertRaises(TooLarge):
            put(wide(60), x=wide(60))

    def test_arguments_stay(self):
        terms = {"x": ("f", "y"), "y": "x"}
        before = copy.deepcopy(terms)
        put_by(("g", "x", "y"), terms)
        self.assertEqual(terms, before)
        self.assertEqual(list(terms), list(before))


class FileTest(unittest.TestCase):
    def test_defined_there(self):
        for name in ("is_name", "is_term", "make_term", "term_from", "names_in", "holes_in", "operators_in", "size_of",
                     "height_of", "text_of", "parts_of", "sorted_terms", "put", "put_by"):
            self.assertEqual(getattr(module, name).__module__, "termpaths.base.terms")


if __name__ == "__main__":
    unittest.main()
