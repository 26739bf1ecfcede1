"""[0.10], [0.12], [2.1], [2.2], stage 2: patterns, but for their signs."""

import copy
import unittest

from tests.reference import (
    STRANGE, different, instance_values, nested, numbered, powers, random_term, random_values, rng, shared_form,
    stepped, tall, wide, written,
)
from termpaths.base.terms import is_term, put_by
from termpaths.errors import InvalidOperation, InvalidPattern, InvalidTerm, TooLarge, UnknownName
from termpaths.patterns import patterns as module
from termpaths.patterns.patterns import MAX_NAMES, MAX_WEIGHT, Pattern

TEN = ("a", "b", "c", "d", "e", "f", "g", "h", "i", "j")
DOUBLE = (("x", ("d", "x", "x")),)


def ground(weights):
    """Return values of these weights that have no part in common, for as many names."""
    counter = [0]
    return {TEN[k]: different(weight, counter) for k, weight in enumerate(weights)}


class MadeTest(unittest.TestCase):
    def test_constants(self):
        self.assertEqual((MAX_WEIGHT, MAX_NAMES), (500, 10))
        self.assertEqual(Pattern.__module__, "termpaths.patterns.patterns")
        for name in ("of", "free", "size", "height", "same", "after", "only", "only_of", "renamed", "renamed_by", "beside",
                     "names", "holes", "weight", "rows", "places", "__getitem__", "__call__", "__len__", "__contains__",
                     "__eq__", "__str__", "__le__", "__lt__", "__ge__", "__gt__", "__and__", "__or__"):
            self.assertIn(name, vars(Pattern))

    def test_ordinary(self):
        p = Pattern(y=("f", 7, ("g", 3)), x=7)
        self.assertEqual(p.names, ("x", "y"))
        self.assertEqual((p.holes, p.weight), (2, 4))
        self.assertEqual(p.rows, (1, 2, ("g", 1), ("f", 0, 2)))
        self.assertEqual(p.places, {"x": 0, "y": 3})
        self.assertEqual([p["x"], p["y"]], [1, ("f", 1, ("g", 2))])

    def test_row_order(self):
        p = Pattern(a=("f", ("g", 9, ("c",)), 4), b=4, c=("h", ("c",), 5, 9))
        self.assertEqual(p.rows, (1, ("c",), ("g", 0, 1), 2, ("f", 2, 3), 3, ("h", 1, 5, 0)))
        self.assertEqual(p.places, {"a": 4, "b": 3, "c": 6})
        self.assertEqual(list(p.places), ["a", "b", "c"])

    def test_random(self):
        for seed in range(300):
            values = random_values(rng(seed), TEN[:1 + seed % 4], 3, 3)
            if not all(is_term(value) for value in values.values()):
                continue
            rows, places = shared_form(values)
            backwards = {name: values[name] for name in reversed(list(values))}
            for p in (Pattern(**values), Pattern.of(values), Pattern(**backwards), Pattern.of(numbered(values))):
                self.assertEqual((p.rows, p.places, list(p.places)), (rows, places, list(places)))
                self.assertEqual(p.names, tuple(sorted(values)))
                self.assertEqual(p.weight, len(rows))
                self.assertEqual(p.holes, len([row for row in rows if isinstance(row, int)]))
                for name, value in numbered(values).items():
                    self.assertEqual(p[name], value)
                    self.assertEqual(p.size(name), written(value))

    def test_any_numbers_of_holes(self):
        self.assertEqual(Pattern(x=500, y=("f", 499)), Pattern(x=1, y=("f", 2)))
        self.assertNotEqual(Pattern(x=1, y=("f", 1)), Pattern(x=1, y=("f", 2)))
        self.assertNotEqual(Pattern(x=1, y=2), Pattern(x=1, z=2))
        self.assertNotEqual(Pattern(x=("f", 1), y=1), Pattern(x=1, y=("f", 1)))
        self.assertNotEqual(Pattern(x=("f",)), Pattern(x=("f", 1)))
        for value in STRANGE:
            if value != Pattern(x=1):
                self.assertIs(Pattern(x=1) == value, False)
                self.assertIs(Pattern(x=1) != value, True)
        self.assertIs(Pattern(x=1) == Pattern(x=4), True)
        self.assertIs(Pattern(x=1) != Pattern(x=4), False)

    def test_same_rows_other_places(self):
        one = Pattern(x=("f", 1), y=1)
        other = Pattern(x=("f", 1), y=("f", 1))
        self.assertEqual(one.rows, other.rows)
        self.assertNotEqual(one, other)

    def test_invalid(self):
        for value in STRANGE + ("x", ("f", "x"), ("f", 501), wide(61, 1), tall(8, 1), nested(20)):
            with self.assertRaises(InvalidPattern):
                Pattern(x=value)
            with self.assertRaises(InvalidPattern):
                Pattern.of({"x": 1, "y": value})
        for value in (None, True, (), [], "x", 3, {}, {"X": 1}, {1: 1}, {"abcdefghi": 1}, {None: 1}, {("x",): 1},
                      (("x", 1),), Pattern(x=1)):
            with self.assertRaises(InvalidPattern):
                Pattern.of(value)
        with self.assertRaises(InvalidPattern):
            Pattern()
        with self.assertRaises(InvalidPattern):
            Pattern(X=1)

    def test_ten_and_eleven_names(self):
        self.assertEqual(Pattern(**{name: 1 for name in TEN}).names, TEN)
        with self.assertRaises(InvalidPattern):
            Pattern(k=1, **{name: 1 for name in TEN})
        with self.assertRaises(InvalidPattern):
            Pattern.of(dict({name: 1 for name in TEN}, k=1))

    def test_names_of_eight_and_nine_letters(self):
        self.assertEqual(Pattern(abcdefgh=1).names, ("abcdefgh",))
        with self.assertRaises(InvalidPattern):
            Pattern(abcdefghi=1)

    def test_a_name_called_self(self):
        p = Pattern.of({"self": ("f", 3), "values": 3})
        self.assertEqual([p["self"], p["values"]], [("f", 1), 1])

    def test_weights(self):
        self.assertEqual(Pattern(**ground([50] * 10)).weight, 500)
        for weights in ([51] + [50] * 9, [50] * 9 + [51], [60] * 10):
            with self.assertRaises(TooLarge) as caught:
                Pattern(**ground(weights))
            self.assertEqual(caught.exception.limit, 500)
            with self.assertRaises(TooLarge):
                Pattern.of(ground(weights))
            with self.assertRaises(InvalidPattern):
                Pattern(**dict(ground(weights), a="x"))

    def test_arguments_stay(self):
        values = {"y": ("f", 7), "x": 7}
        before = copy.deepcopy(values)
        p = Pattern.of(values)
        self.assertEqual((values, list(values)), (before, list(before)))
        values["x"] = ("a",)
        self.assertEqual(p["x"], 1)

    def test_no_access_to_the_state(self):
        p = Pattern(x=1, y=2)
        places = p.places
        places["x"] = 7
        places["z"] = 7
        self.assertEqual(p.places, {"x": 0, "y": 1})
        for attribute in ("names", "holes", "weight", "rows", "places"):
            with self.assertRaises(AttributeError):
                setattr(p, attribute, 1)

    def test_not_iterated(self):
        with self.assertRaises(TypeError):
            iter(Pattern(x=1))
        with self.assertRaises(TypeError):
            list(Pattern(x=1))


class FreeTest(unittest.TestCase):
    def test_ordinary(self):
        self.assertEqual(Pattern.free("y", "x", "y"), Pattern(x=1, y=2))
        self.assertEqual(Pattern.free(*(TEN * 3)).holes, 10)
        self.assertEqual(Pattern.free("self").names, ("self",))

    def test_errors(self):
        with self.assertRaises(InvalidPattern):
            Pattern.free()
        with self.assertRaises(InvalidPattern):
            Pattern.free(*TEN, "k")
        for value in STRANGE:
            with self.assertRaises(InvalidPattern):
                Pattern.free("x", value)


class ValuesTest(unittest.TestCase):
    def test_errors_of_names(self):
        p = Pattern(x=1, y=("f", 1))
        for value in STRANGE + ("z", "X", ("x",), ["x"], {"x": 1}):
            for call in (lambda: p[value], lambda: p.size(value), lambda: p.height(value)):
                with self.assertRaises(UnknownName) as caught:
                    call()
                self.assertIs(caught.exception.name, value)
            self.assertIs(value in p, False)
        self.assertIs("x" in p, True)

    def test_great_values(self):
        p = stepped(Pattern(x=1), DOUBLE, 40)
        self.assertEqual((p.weight, p.holes), (41, 1))
        self.assertEqual((p.size("x"), p.height("x")), (2 ** 41 - 1, 40))
        with self.assertRaises(TooLarge) as caught:
            p["x"]
        self.assertEqual(caught.exception.limit, 60)
        greatest = stepped(Pattern(x=1), DOUBLE, 499)
        self.assertEqual((greatest.size("x"), greatest.height("x")), (2 ** 500 - 1, 499))
        self.assertIs(greatest.same(("d", "x", "x"), ("d", "x", "x")), True)
        self.assertIs(greatest.same(("d", "x", "x"), "x"), False)

    def test_limits_of_terms(self):
        self.assertEqual(powers(x=7)["x"], tall(7, 1))
        with self.assertRaises(TooLarge) as caught:
            powers(x=8)["x"]
        self.assertEqual(caught.exception.limit, 7)
        with self.assertRaises(TooLarge) as caught:
            powers(x=60)["x"]
        self.assertEqual(caught.exception.limit, 60)
        p = Pattern(x=wide(59, 1), y=wide(60, 1))
        self.assertEqual(p(("s", "x")), ("s", wide(59, 1)))
        self.assertEqual(p("y"), wide(60, 1))
        for call in (lambda: p(("s", "y")), lambda: p(("f", "x", "x"))):
            with self.assertRaises(TooLarge) as caught:
                call()
            self.assertEqual(caught.exception.limit, 60)
        tower = Pattern(x=tall(4, 1))
        self.assertEqual(tower(tall(3)), tall(7, 1))
        with self.assertRaises(TooLarge) as caught:
            tower(tall(4))
        self.assertEqual(caught.exception.limit, 7)
        with self.assertRaises(UnknownName):
            powers(x=60)["y"]
        with self.assertRaises(InvalidTerm):
            powers(x=60)(("f", "x", "y"))
        self.assertIs(powers(x=60).same(("s", "x"), ("s", "x")), True)

    def test_heights(self):
        p = Pattern(x=1, y=("a",), z=("f", ("a",), ("g", 1)))
        self.assertEqual([p.height(name) for name in "xyz"], [0, 0, 2])
        self.assertEqual([p.size(name) for name in "xyz"], [1, 1, 4])

    def test_values_of_terms(self):
        for seed in range(200):
            values = random_values(rng(seed), ("x", "y", "z"), 3, 2)
            p = Pattern(**values)
            values = numbered(values)
            e = random_term(rng(seed + 1000), ["x", "y", "z"], 2)
            f = random_term(rng(seed + 2000), ["x", "y", "z"], 1)
            try:
                self.assertEqual(p(e), put_by(e, values))
                self.assertIs(p.same(e, f), put_by(e, values) == put_by(f, values))
                self.assertIs(p.same(e, e), True)
            except TooLarge:
                with self.assertRaises(TooLarge):
                    put_by(e, values)

    def test_same(self):
        p = Pattern(x=7, y=("f", 7, ("g", 3)), z=("g", 3))
        self.assertIs(p.same("y", ("f", "x", "z")), True)
        self.assertIs(p.same("y", ("f", "x", ("g", "x"))), False)
        self.assertIs(p.same(("h", "x"), ("h", "x")), True)
        self.assertIs(p.same(("h", "x"), ("k", "x")), False)
        self.assertIs(p.same(("f", "z"), ("f", "z", "z")), False)
        self.assertIs(p.same(("new",), ("new",)), True)

    def test_errors_of_terms(self):
        p = Pattern(x=1, y=2)
        for value in STRANGE + ("z", 1, ("f", "x", 1), ("f", "z"), wide(61), tall(8)):
            for call in (lambda: p(value), lambda: p.same(value, "x"), lambda: p.same("x", value)):
                with self.assertRaises(InvalidTerm):
                    call()


class AfterTest(unittest.TestCase):
    def test_all_at_once(self):
        p = Pattern(x=1, y=("f", 1, 2))
        self.assertEqual(p.after((("x", "y"), ("y", "x"))), Pattern(x=("f", 1, 2), y=1))
        three = Pattern(x=("a",), y=("b",), z=3)
        turn = (("x", "y"), ("y", "z"), ("z", "x"))
        self.assertEqual(three.after(turn), Pattern(x=("b",), y=1, z=("a",)))
        self.assertEqual(stepped(three, turn, 3), three)
        self.assertEqual(p.after(()), p)

    def test_values_that_are_read(self):
        p = Pattern(x=1, y=1)
        self.assertEqual(p.after((("x", 1),)), Pattern(x=1, y=2))
        self.assertEqual(p.after((("x", 5), ("y", ("f", 5, 7)))), Pattern(x=1, y=("f", 1, 2)))
        self.assertEqual(p.after((("x", 500), ("y", 499))), Pattern(x=1, y=2))
        self.assertEqual(p.after((("x", ("f", "x", 1)),)), Pattern(x=("f", 1, 2), y=1))
        self.assertEqual(Pattern(x=("a",)).after((("x", 1),)), Pattern(x=1))

    def test_random(self):
        for seed in range(200):
            one = rng(seed)
            values = random_values(one, ("x", "y", "z"), 2, 1)
            action = tuple((name, random_term(one, ["x", "y", "z", 1, 2], 2)) for name in ("x", "y", "z") if one.randrange(2))
            changed = dict(values)
            for name, term in action:
                changed[name] = put_all(term, values)
            if all(is_term(value) for value in changed.values()):
                self.assertEqual(Pattern(**values).after(action), Pattern(**changed))

    def test_weights(self):
        p = powers(x=498)
        self.assertEqual(p.weight, 499)
        self.assertEqual(p.after((("x", ("s", "x")),)).weight, 500)
        for action in ((("x", ("s", ("s", "x"))),), (("x", ("d", "x", 1)),)):
            with self.assertRaises(TooLarge) as caught:
                p.after(action)
            self.assertEqual(caught.exception.limit, 500)
        self.assertEqual(p.after((("x", ("a",)),)), Pattern(x=("a",)))

    def test_errors(self):
        p = Pattern(x=1, y=2)
        for value in STRANGE + (
            (("z", "x"),), (("x", "z"),), (("y", "x"), ("x", "y")), (("x", "x"), ("x", "x")), [("x", "x")],
            (["x", "x"],), (("x",),), (("x", "x", "x"),), (("x", 0),), (("x", True),), (("x", 501),), {"x": "x"},
            (("x", wide(61)),), (("x", tall(8)),), ("x", "y"), (("x", "x"), None), (("x", Pattern(x=1)),),
        ):
            if value in ((), (("x", "y"),)):
                continue
            with self.assertRaises(InvalidTerm):
                p.after(value)
        with self.assertRaises(InvalidTerm):
            powers(x=499).after((("x", ("s", ("s", "x"))), ("y", "x")))

    def test_greatest_terms(self):
        self.assertEqual(Pattern(x=1).after((("x", wide(60)),))["x"], wide(60, 1))
        self.assertEqual(Pattern(x=1).after((("x", tall(7)),))["x"], tall(7, 1))


def put_all(term, values):
    """Return a term with values put for its variables, and new holes for its integers."""
    if isinstance(term, str):
        return values[term]
    if isinstance(term, int):
        return 100 + term
    return (term[0],) + tuple(put_all(inner, values) for inner in term[1:])


class OnlyTest(unittest.TestCase):
    def test_ordinary(self):
        p = Pattern(x=("f", 1), y=2, z=("g", 2, 1))
        self.assertEqual(p.only("z", "y", "z"), Pattern(y=1, z=("g", 1, 2)))
        self.assertEqual(p.only_of(("z",)), Pattern(z=("g", 1, 2)))
        self.assertEqual(p.only("x", "y", "z"), p)
        self.assertEqual(p.only("z").rows, (1, 2, ("g", 0, 1)))

    def test_errors(self):
        p = Pattern(x=1, y=2)
        with self.assertRaises(InvalidOperation):
            p.only()
        with self.assertRaises(InvalidOperation):
            p.only_of(())
        for value in (["x"], None, "x", {"x": 1}, 3, True, p):
            with self.assertRaises(InvalidOperation):
                p.only_of(value)
        for value in STRANGE + ("z",):
            with self.assertRaises(UnknownName) as caught:
                p.only("x", value, "zz")
            self.assertIs(caught.exception.name, value)
            with self.assertRaises(UnknownName) as caught:
                p.only_of((value, "zz"))
            self.assertIs(caught.exception.name, value)


class RenamedTest(unittest.TestCase):
    def test_ordinary(self):
        p = Pattern(x=("f", 1), y=1, z=2)
        self.assertEqual(p.renamed(x="y", y="z", z="x"), Pattern(x=1, y=("f", 2), z=2))
        self.assertEqual(p.renamed(x="y", y="x"), Pattern(x=1, y=("f", 1), z=2))
        self.assertEqual(p.renamed(x="abcdefgh"), Pattern(abcdefgh=("f", 1), y=1, z=2))
        self.assertEqual(p.renamed(), p)
        self.assertEqual(p.renamed(x="x"), p)
        self.assertEqual(p.renamed_by({"z": "self"}), Pattern.of({"x": ("f", 1), "y": 1, "self": 2}))
        self.assertEqual(Pattern.of({"self": 1}).renamed_by({"self": "x"}), Pattern(x=1))

    def test_rows_are_in_the_order_of_the_new_names(self):
        p = Pattern(x=("f", 1), y=2).renamed(x="z")
        self.assertEqual((p.names, p.rows, p.places), (("y", "z"), (1, 2, ("f", 1)), {"y": 0, "z": 2}))

    def test_errors(self):
        p = Pattern(x=1, y=2)
        for value in (None, (), [], "x", 3, True, (("x", "y"),), {1: "x"}, {None: "x"}, {("x",): "z"}, p,
                      {"zz": "a", 1: "x"}):
            with self.assertRaises(InvalidOperation):
                p.renamed_by(value)
        with self.assertRaises(UnknownName) as caught:
            p.renamed_by({"zz": None, "za": 1, "x": "y", "zb": "x"})
        self.assertEqual(caught.exception.name, "za")
        with self.assertRaises(UnknownName) as caught:
            p.renamed(Z="x", x=None)
        self.assertEqual(caught.exception.name, "Z")
        for value in STRANGE + ("abcdefghi",):
            with self.assertRaises(InvalidOperation):
                p.renamed(x=value)
        for names in ({"x": "y"}, {"x": "a", "y": "a"}):
            with self.assertRaises(InvalidOperation):
                p.renamed_by(names)

    def test_arguments_stay(self):
        names = {"y": "x", "x": "y"}
        Pattern(x=1, y=2).renamed_by(names)
        self.assertEqual(list(names.items()), [("y", "x"), ("x", "y")])


class BesideTest(unittest.TestCase):
    def test_ordinary(self):
        p = Pattern(y=("f", 1), z=1)
        q = Pattern(a=1, x=("f", 1))
        for found in (p.beside(q), q.beside(p)):
            self.assertEqual(found, Pattern(a=1, x=("f", 1), y=("f", 2), z=2))
        self.assertEqual(p.beside(Pattern(x=("c",))).beside(Pattern(b=("c",))).weight, 3)

    def test_errors(self):
        p = Pattern(x=1)
        for value in STRANGE:
            if value != p:
                with self.assertRaises(InvalidPattern):
                    p.beside(value)
        for value in (p, Pattern(x=1, y=2)):
            with self.assertRaises(InvalidOperation):
                p.beside(value)
        nine = Pattern.free(*TEN[:9])
        self.assertEqual(nine.beside(p).weight, 10)
        with self.assertRaises(InvalidOperation):
            Pattern.free(*TEN).beside(p)
        with self.assertRaises(InvalidOperation):
            Pattern.free(*TEN).beside(Pattern.free("a", "x"))

    def test_weights(self):
        p = powers(x=249)
        self.assertEqual(p.beside(powers(y=249)).weight, 500)
        with self.assertRaises(TooLarge) as caught:
            p.beside(powers(y=250))
        self.assertEqual(caught.exception.limit, 500)
        with self.assertRaises(InvalidOperation):
            powers(x=499).beside(powers(x=499))
        constant = stepped(Pattern(x=("a",)), (("x", ("s", "x")),), 499)
        self.assertEqual(constant.beside(constant.renamed(x="y")).weight, 500)


class TextTest(unittest.TestCase):
    def test_len_and_str(self):
        self.assertEqual(len(Pattern(x=1, y=("f", 1))), 2)
        self.assertEqual(str(Pattern(x=1, y=("f", 1, 2))), "pattern of 2 names, weight 3")
        self.assertEqual(str(Pattern(x=("a",))), "pattern of 1 names, weight 1")


class MostSpecialTest(unittest.TestCase):
    def test_values_in_a_set_of_patterns(self):
        # [2.2]: two terms have the same value in all patterns exactly if they have it in the most special one.
        for seed in range(100):
            one = rng(seed)
            values = random_values(one, ("x", "y", "z"), 2, 1)
            several = [Pattern(**instance_values(one, values, 2, 1)) for _ in range(3)]
            joint = several[0] | several[1] | several[2]
            for _ in range(10):
                e = random_term(one, ["x", "y", "z"], 1)
                f = random_term(one, ["x", "y", "z"], 1)
                self.assertIs(joint.same(e, f), all(p.same(e, f) for p in several))


class FileTest(unittest.TestCase):
    def test_only_the_interface_is_public_of_the_class(self):
        public = [name for name in vars(Pattern) if not name.startswith("_")]
        self.assertEqual(sorted(public), sorted((
            "of", "free", "names", "holes", "weight", "rows", "places", "size", "height", "same", "after", "only",
            "only_of", "renamed", "renamed_by", "beside",
        )))
        self.assertEqual(module.Pattern, Pattern)


if __name__ == "__main__":
    unittest.main()
