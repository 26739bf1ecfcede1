"""[14.1] to [14.3], stage 14: cheapest terms and steps."""

import itertools
import unittest

from tests.hand import NAMES, valued
from tests.reference import (
    STRANGE, different, letters, nested, powers, random_term, random_values, rng, stepped, tall, wide,
)
from termpaths.bounds import cheapest as module
from termpaths.bounds.cheapest import (
    are_steps, cheapest, cheapest_steps, cheapest_steps_of, cost_of, holders, is_cheapest, is_cheapest_steps,
    least_cost, steps_value,
)
from termpaths.errors import InvalidNumber, InvalidOperation, InvalidPattern, InvalidTerm, TooLarge
from termpaths.patterns.patterns import Pattern

KNOWN = Pattern(x=1, y=("f", 1))
WRONG_TERMS = ("z", 1, True, None, ("f", 1), ("f", "z"), ["x"], ("F", "x"), {}, nested(12), Pattern(x=1), 10 ** 39)
WRONG_COSTS = (
    0, True, (), [], "f", {"f": 0}, {"f": -1}, {"f": True}, {"f": None}, {"f": "1"}, {"F": 1}, {"": 1}, {1: 1}, {True: 1},
    {("f", 1): 1}, {None: 1}, {"f": 1, "g": 0}, {"f": 1, 2: 1}, (("f", 1),), {"f": (1,)}, Pattern(x=1),
)
WRONG_LOADS = (
    0, True, (), [], "x", {"x": -1}, {"x": True}, {"x": None}, {"X": 1}, {1: 1}, {True: 0}, {("x",): 1}, {"x": 0, "y": -1},
    (("x", 1),), {"": 0}, {"x": [0]}, Pattern(x=1),
)


def random_pattern(one, many=4, holes=3, height=2):
    names = "vwxyz"[:many]
    values = random_values(one, names, holes, height)
    # Some names have values of others, or parts of them, so that there is something to be taken.
    for name in names:
        other = values[one.choice(names)]
        if one.randrange(3) == 0:
            values[name] = other[1] if isinstance(other, tuple) and len(other) > 1 and one.randrange(2) else other
    return values


def price(term, costs, loads):
    if isinstance(term, str):
        return loads.get(term, 0)
    return costs.get(term[0], 1) + sum(price(inner, costs, loads) for inner in term[1:])


def least(value, values, costs, loads):
    """Return the least cost of a value by the words of [14.2], or None."""
    found = [loads.get(name, 0) for name in values if values[name] == value]
    if isinstance(value, tuple):
        inner = [least(part, values, costs, loads) for part in value[1:]]
        if None not in inner:
            found.append(costs.get(value[0], 1) + sum(inner))
    return min(found, default=None)


def steps_by_hand(values, steps):
    """Return the values of steps."""
    found = []
    for step in steps:
        found.append((step[0],) + tuple(found[leaf - 1] if isinstance(leaf, int) else values[leaf] for leaf in step[1:]))
    return found


def must_be_made(values, terms):
    """Return all different values that must be made for terms."""
    held = list(values.values())
    found = []

    def make(value):
        if value not in held and value not in found:
            for part in value[1:]:
                make(part)
            found.append(value)

    for term in terms:
        make(valued(term, values))
    return found


class CostsTest(unittest.TestCase):
    def test_holders(self):
        p = Pattern(z=1, x=1, y=("f", 1), w=("f", ("f", 2)))
        self.assertEqual(holders(p, "x"), ("x", "z"))
        self.assertEqual(holders(p, "z"), ("x", "z"))
        self.assertEqual(holders(p, ("f", "z")), ("y",))
        self.assertEqual(holders(p, ("f", "y")), ())
        self.assertEqual(holders(p, ("f", "x", "x")), ())
        self.assertEqual(holders(p, ("a",)), ())
        many = Pattern(**{name: ("a",) for name in "jihgfedcba"})
        self.assertEqual(holders(many, ("a",)), tuple("abcdefghij"))

    def test_cost_of(self):
        term = ("g", ("h", "x"), ("h", "x"))
        self.assertEqual(cost_of(term), 3)
        self.assertEqual(cost_of(term, costs={"h": 5}), 11)
        self.assertEqual(cost_of(term, costs={}, loads={}), 3)
        self.assertEqual(cost_of(term, costs={"h": 5}, loads={"x": 10 ** 30, "y": 3}), 11 + 2 * 10 ** 30)
        self.assertEqual(cost_of("x"), 0)
        self.assertEqual(cost_of("x", costs={"x": 7}), 0)
        self.assertEqual(cost_of("x", loads={"x": 7, "z": 1}), 7)
        self.assertEqual(cost_of(("a",), costs={"a": 10 ** 39}), 10 ** 39)
        # An operator and a variable that are called alike; an operator costs the same with any number of terms.
        self.assertEqual(cost_of(("x", "x", ("x", "x")), costs={"x": 3}, loads={"x": 20}), 46)
        self.assertEqual(cost_of(("f", ("f", ("f",), ("f",))), costs={"f": 2}), 8)
        self.assertEqual(cost_of(wide(60)), len([one for one in str(wide(60)) if one == "w"]))

    def test_written(self):
        self.assertEqual(
            [cheapest(KNOWN, ("g", ("f", "x"), ("f", ("f", "x")))), cost_of(("g", ("h", "x"), ("h", "x")), costs={"h": 5}),
             cheapest_steps(KNOWN, ("g", ("h", "x"), ("h", "x")))],
            [("g", "y", ("f", "y")), 11, (("h", "x"), ("g", 1, 1))])

    def test_errors(self):
        for value in STRANGE + (("f", 1), ("g", "x", ("f", 2))):
            if value not in ("",) and isinstance(value, str) or value == ("f", "x"):
                continue
            with self.assertRaises(InvalidTerm):
                cost_of(value, costs=0, loads=0)
        for value in WRONG_COSTS:
            for call in (lambda: cost_of("x", costs=value, loads=0), lambda: cost_of("x", costs=value), lambda: least_cost(KNOWN, "x", costs=value, loads=0),
                         lambda: cheapest(KNOWN, "x", loads=0, costs=value), lambda: is_cheapest(KNOWN, "x", 0, costs=value)):
                with self.assertRaises(InvalidOperation):
                    call()
        for value in WRONG_LOADS:
            for call in (lambda: cost_of("x", loads=value), lambda: least_cost(KNOWN, "x", loads=value),
                         lambda: cheapest(KNOWN, "x", loads=value), lambda: is_cheapest(KNOWN, "x", 0, loads=value)):
                with self.assertRaises(InvalidOperation):
                    call()
        # A name that the pattern does not have has a load only where no pattern is passed.
        self.assertEqual(cost_of("x", loads={"z": 1}), 0)
        for call in (least_cost, cheapest, lambda p, term, loads: is_cheapest(p, term, "x", loads=loads)):
            with self.assertRaises(InvalidOperation):
                call(KNOWN, "x", loads={"x": 1, "z": 1})

    def test_errors_in_order(self):
        for call in (holders, least_cost, cheapest, lambda p, term: is_cheapest(p, term, 0), cheapest_steps,
                     lambda p, term: cheapest_steps_of(p, (term,)), lambda p, term: is_cheapest_steps(p, (term,), 0)):
            for value in (None, 0, "x", (), {"x": 1}, ("x", 1), [], KNOWN.rows, True):
                with self.assertRaises(InvalidPattern):
                    call(value, None)
            for value in WRONG_TERMS:
                with self.assertRaises(InvalidTerm):
                    call(KNOWN, value)
        for call in (least_cost, cheapest, lambda p, term, costs: is_cheapest(p, term, 0, costs=costs)):
            with self.assertRaises(InvalidPattern):
                call(None, None, costs=0)
            with self.assertRaises(InvalidTerm):
                call(KNOWN, None, costs=0)

    def test_arguments_stay(self):
        costs = {"g": 2, "f": 9}
        loads = {"y": 4, "x": 0}
        for call in (lambda: cost_of(("f", "x"), costs=costs, loads=loads), lambda: least_cost(KNOWN, "y", costs=costs, loads=loads),
                     lambda: cheapest(KNOWN, "y", costs=costs, loads=loads), lambda: is_cheapest(KNOWN, "y", "y", costs=costs, loads=loads)):
            call()
        self.assertEqual((list(costs.items()), list(loads.items())), ([("g", 2), ("f", 9)], [("y", 4), ("x", 0)]))

    def test_defined_there(self):
        for name in ("holders", "cost_of", "least_cost", "cheapest", "is_cheapest", "cheapest_steps", "cheapest_steps_of",
                     "are_steps", "steps_value", "is_cheapest_steps"):
            self.assertEqual(getattr(module, name).__module__, "termpaths.bounds.cheapest")


class CheapestTest(unittest.TestCase):
    def test_names(self):
        p = Pattern(z=1, x=1, y=("f", 1))
        self.assertEqual(cheapest(p, "z"), "x")
        self.assertEqual(cheapest(p, ("f", "z")), "y")
        self.assertEqual(cheapest(p, ("f", "z"), loads={"y": 1}), "y")
        self.assertEqual(cheapest(p, ("f", "z"), loads={"y": 2}), ("f", "x"))
        self.assertEqual(cheapest(p, "y", loads={"y": 1, "x": 1}), "y")
        self.assertEqual(cheapest(p, "y", loads={"y": 2, "x": 1}), ("f", "z"))
        self.assertEqual(cheapest(p, "y", loads={"y": 9, "x": 1, "z": 1}), ("f", "x"))
        self.assertEqual(least_cost(p, "y", loads={"y": 9, "x": 1, "z": 1}), 2)
        self.assertEqual(least_cost(p, "y", costs={"f": 10}, loads={"y": 9, "x": 1, "z": 1}), 9)
        # A hole that only x holds is taken from there, whatever it costs.
        self.assertEqual(least_cost(KNOWN, "x", loads={"x": 10 ** 30}), 10 ** 30)
        self.assertEqual(cheapest(KNOWN, "x", loads={"x": 10 ** 30}), "x")

    def test_values_that_only_names_hold(self):
        # The hole below y is held by no name, so y cannot be made.
        p = Pattern(y=("f", 1), z=("g", ("f", 1), ("f", 1)))
        self.assertEqual(least_cost(p, "y", loads={"y": 50}), 50)
        self.assertEqual(cheapest(p, "z", loads={"z": 102, "y": 50}), ("g", "y", "y"))
        self.assertEqual(cheapest(p, "z", loads={"z": 100, "y": 50}), "z")
        self.assertEqual(least_cost(p, "z", loads={"z": 102, "y": 50}), 101)
        self.assertEqual(cheapest(p, ("h", "y"), loads={"y": 5}), ("h", "y"))

    def test_operators_called_like_names(self):
        p = Pattern(x=("x", 1), y=1)
        self.assertEqual(cheapest(p, ("x", "y")), "x")
        self.assertEqual(cheapest(p, "x", costs={"x": 2}, loads={"x": 3}), ("x", "y"))
        self.assertEqual(cheapest(p, ("y",)), ("y",))
        self.assertEqual(least_cost(p, ("y",), costs={"y": 3}, loads={"y": 4}), 3)
        self.assertEqual(least_cost(p, ("y", "y"), costs={"y": 3}, loads={"y": 4}), 7)

    def test_several(self):
        p = Pattern(x=1, y=("f", 1), z=("f", 1), c=("a",))
        for term in ("y", "z", ("f", "x")):
            for value in ("y", "z"):
                self.assertIs(is_cheapest(p, term, value), True)
            self.assertIs(is_cheapest(p, term, ("f", "x")), False)
            self.assertIs(is_cheapest(p, term, ("f", "x"), loads={"y": 1, "z": 2}), True)
            self.assertIs(is_cheapest(p, term, "y", loads={"y": 1, "z": 2}), True)
            self.assertIs(is_cheapest(p, term, "z", loads={"y": 1, "z": 2}), False)
            self.assertIs(is_cheapest(p, term, "x"), False)
        self.assertIs(is_cheapest(p, "c", ("a",), loads={"c": 1}), True)
        self.assertIs(is_cheapest(p, "c", "c", loads={"c": 1}), True)
        self.assertIs(is_cheapest(p, ("a",), ("a",)), False)
        self.assertIs(is_cheapest(p, ("g", "y"), ("g", "z")), True)

    def test_other_values(self):
        for value in STRANGE + WRONG_TERMS + (("f", ("f", "x")), tall(7, "y")):
            expected = value == "x"
            self.assertIs(is_cheapest(KNOWN, "x", value), expected)
        self.assertIs(is_cheapest(KNOWN, ("h", "x"), ("h", 1)), False)

    def test_against_all_terms(self):
        """Every term of a small height over the names is compared with all others of its value."""
        for seed in range(40):
            one = rng(seed)
            values = {"x": 1, "y": random_term(one, [1, 2], 1), "z": random_term(one, [1, 2], 2)}
            p = Pattern.of(values)
            costs = {name: one.randrange(1, 5) for name in "abfg" if one.randrange(2)}
            loads = {name: one.randrange(4) for name in values if one.randrange(2)}
            terms = [*values, ("a",), ("b",)]
            for _ in range(2):
                shallow = terms[:12]
                terms = list(dict.fromkeys([*terms, *[("f", e) for e in terms], *[("g", e, f) for e in shallow for f in shallow]]))
            groups = {}
            for term in terms:
                groups.setdefault(valued(term, values), []).append(term)
            for value in list(groups)[:40]:
                found = cheapest(p, groups[value][0], costs=costs, loads=loads)
                lowest = min(price(term, costs, loads) for term in groups[value])
                self.assertLessEqual(price(found, costs, loads), lowest)
                self.assertEqual(valued(found, values), value)
                self.assertEqual(least_cost(p, groups[value][-1], costs=costs, loads=loads), price(found, costs, loads))
                for term in groups[value]:
                    expected = price(term, costs, loads) == price(found, costs, loads)
                    self.assertIs(is_cheapest(p, groups[value][0], term, costs=costs, loads=loads), expected)

    def test_random(self):
        for seed in range(300):
            one = rng(seed)
            values = random_pattern(one)
            p = Pattern.of(values)
            term = random_term(one, list(values), 3)
            costs = None if seed % 3 == 0 else {name: one.randrange(1, 6) for name in "abfghs" if one.randrange(2)}
            loads = None if seed % 5 == 0 else {name: one.randrange(6) for name in values if one.randrange(2)}
            expected = least(valued(term, values), values, costs or {}, loads or {})
            self.assertEqual(least_cost(p, term, costs=costs, loads=loads), expected)
            found = cheapest(p, term, costs=costs, loads=loads)
            self.assertEqual(valued(found, values), valued(term, values))
            self.assertEqual(cost_of(found, costs=costs, loads=loads), expected)
            self.assertIs(is_cheapest(p, term, found, costs=costs, loads=loads), True)
            self.assertIs(is_cheapest(p, term, term, costs=costs, loads=loads), price(term, costs or {}, loads or {}) == expected)

    def test_without_loads(self):
        """Without loads a term is cheapest if none of its parts with an operator has a value that a name holds."""
        for seed in range(150):
            one = rng(seed)
            values = random_pattern(one)
            p = Pattern.of(values)
            term = random_term(one, list(values), 3)

            def held(part):
                return isinstance(part, tuple) and (holders(p, part) != () or any(held(inner) for inner in part[1:]))

            self.assertIs(is_cheapest(p, term, term), not held(term))

    def test_great_values(self):
        double = (("x", ("d", "x", "x")),)
        p = stepped(Pattern(x=1, y=1), double, 498)
        self.assertEqual(least_cost(p, "x"), 0)
        self.assertEqual(least_cost(p, "x", loads={"x": 3 ** 400}), 2 ** 498 - 1)
        self.assertEqual(least_cost(p, "x", loads={"x": 3 ** 400, "y": 1}), 2 ** 499 - 1)
        self.assertEqual(least_cost(p, "x", loads={"x": 3 ** 400}, costs={"d": 10 ** 30}), (2 ** 498 - 1) * 10 ** 30)
        self.assertEqual(least_cost(p, "x", loads={"x": 3 ** 400}, costs={"d": 10 ** 45}), 3 ** 400)
        self.assertEqual(cheapest(p, ("d", "x", "x")), ("d", "x", "x"))
        self.assertIs(is_cheapest(p, "x", "x", loads={"x": 3 ** 400}), False)
        high = powers(x=498, y=0)
        self.assertEqual(least_cost(high, ("s", "x")), 1)
        self.assertEqual(least_cost(high, "x", loads={"x": 10 ** 6}), 498)
        self.assertEqual(cheapest(high, ("s", "x"), loads={"x": 498}), ("s", "x"))

    def test_too_large(self):
        double = (("x", ("d", "x", "x")),)
        load = {"x": 10 ** 200}
        for times, limit in ((4, None), (5, 60), (8, 60), (400, 60)):
            p = stepped(Pattern(x=1, y=1), double, times)
            if limit is None:
                self.assertEqual(cost_of(cheapest(p, "x", loads=load)), 15)
                continue
            with self.assertRaises(TooLarge) as caught:
                cheapest(p, "x", loads=load)
            self.assertEqual(caught.exception.limit, limit)
        for times, limit in ((7, None), (8, 7), (59, 7), (60, 60), (300, 60)):
            p = powers(x=times, y=0)
            if limit is None:
                self.assertEqual(cheapest(p, "x", loads=load), tall(7, "y"))
                continue
            with self.assertRaises(TooLarge) as caught:
                cheapest(p, "x", loads=load)
            self.assertEqual(caught.exception.limit, limit)
            self.assertEqual(least_cost(p, "x", loads=load), times)
            # A cheapest term that is a name is no reason for an error, also if it costs as much as what is too great.
            self.assertEqual(cheapest(p, "x", loads={"x": times}), "x")
        # Exactly as great as a term can be.
        p = Pattern(x=1, y=1).after((("y", wide(60)),))
        self.assertEqual(cheapest(p, "y", loads={"y": 10 ** 9}), wide(60))
        with self.assertRaises(TooLarge) as caught:
            cheapest(p.after((("y", ("s", "y")),)), "y", loads={"y": 10 ** 9})
        self.assertEqual(caught.exception.limit, 60)


class StepsTest(unittest.TestCase):
    def test_ordinary(self):
        term = ("g", ("h", "x"), ("h", "x"))
        self.assertEqual(cheapest_steps(KNOWN), ())
        self.assertEqual(cheapest_steps(KNOWN, "x", "y", ("f", "x")), ())
        self.assertEqual(cheapest_steps(KNOWN, term, term), (("h", "x"), ("g", 1, 1)))
        self.assertEqual(cheapest_steps_of(KNOWN, (term, ("h", "x"))), (("h", "x"), ("g", 1, 1)))
        self.assertEqual(cheapest_steps(KNOWN, ("f", ("f", ("f", "x")))), (("f", "y"), ("f", 1)))
        self.assertIs(is_cheapest_steps(KNOWN, (), ()), True)
        self.assertIs(is_cheapest_steps(KNOWN, ("x", ("f", "x"), "x"), ()), True)
        self.assertEqual(len(cheapest_steps(KNOWN, ("a",), ("b",), ("a",))), 2)

    def test_judged(self):
        terms = (("g", ("h", "x"), ("h", "x")), ("k", ("a",)))
        good = (
            (("h", "x"), ("g", 1, 1), ("a",), ("k", 3)), (("a",), ("k", 1), ("h", "x"), ("g", 3, 3)),
            (("a",), ("h", "x"), ("k", 1), ("g", 2, 2)),
        )
        for steps in good:
            self.assertIs(is_cheapest_steps(KNOWN, terms, steps), True)
            self.assertIs(is_cheapest_steps(KNOWN, terms[::-1], steps), True)
            self.assertIs(is_cheapest_steps(KNOWN, terms + terms + ("y",), steps), True)
            self.assertIs(is_cheapest_steps(KNOWN, terms + (("h", "x"),), steps), True)
            # One more, one twice, one left out.
            for more in (("b",), ("g", 1, 2), ("h", "y"), ("f", "x"), ("h", "x"), ("k", "x")):
                self.assertIs(is_cheapest_steps(KNOWN, terms, steps + (more,)), False)
            for k in range(4):
                self.assertIs(is_cheapest_steps(KNOWN, terms, steps[:k] + steps[k + 1:]), False)
                self.assertIs(is_cheapest_steps(KNOWN, terms, steps[:k] + steps[k:k + 1] + steps[k:]), False)
            self.assertIs(is_cheapest_steps(KNOWN, terms[:1], steps), False)
            self.assertIs(is_cheapest_steps(KNOWN, (), steps), False)
            self.assertIs(is_cheapest_steps(KNOWN, terms, list(steps)), False)
        # A step whose value a name holds, and another name for a value that two names hold.
        self.assertIs(is_cheapest_steps(KNOWN, (("h", "y"),), (("f", "x"), ("h", 1))), False)
        self.assertIs(is_cheapest_steps(KNOWN, (("h", ("f", "x")),), (("h", "y"),)), True)
        both = Pattern(x=1, y=1)
        for leaf in ("x", "y"):
            self.assertIs(is_cheapest_steps(both, (("h", "x"),), (("h", leaf),)), True)
        # A value that stands deeper in what a later step takes from a name is not used there.
        deep = Pattern(x=1, y=("h", ("f", 1)))
        self.assertIs(is_cheapest_steps(deep, (("k", "y"),), (("f", "x"), ("k", "y"))), False)
        self.assertIs(is_cheapest_steps(deep, (("k", "y"),), (("k", "y"),)), True)

    def test_steps(self):
        for value in ((), (("a",),), (("f", "x"),), (("f", "x"), ("f", 1)), (("f", "x"), ("f", "x")), (("g", "x", "y"), ("h", 1, 1, "x")),
                      (("a",), ("b",), ("g", 2, 1)), (("f", "x"),) * 500):
            self.assertIs(are_steps(KNOWN, value), True)
        for value in ((("f", "x"),) * 501, ("x",), (1,), (("f", 1),), (("f", 0),), (("a",), ("f", 2)), (("a",), ("f", 0)),
                      (("a",), ("f", True)), (("a",), ("f", -1)), (("f", "z"),), (("f", ("a",)),), (("f", ("f", "x")),), (("F", "x"),),
                      (("f", "x", "x", "x", "x"),), [("f", "x")], (["f", "x"],), (("f", None),), (("a",), ("f", 501)), (("f", ("a",), "x"),),
                      ("f", "x"), (("a",), None), ((),), (("a",), ("f", ("f", 1)))):
            self.assertIs(are_steps(KNOWN, value), False)
            self.assertIs(is_cheapest_steps(KNOWN, (("f", "y"),), value), False)
            with self.assertRaises(InvalidOperation):
                steps_value(KNOWN, value, None)
        for value in STRANGE:
            self.assertIs(are_steps(KNOWN, value), value in ((), (("x", "y"),)))
            self.assertIs(is_cheapest_steps(KNOWN, ("x",), value), value == ())
        for value in (None, 0, "x", ()):
            with self.assertRaises(InvalidPattern):
                are_steps(value, ())

    def test_values(self):
        steps = (("h", "y"), ("g", 1, "x"), ("a",), ("h", 2))
        found = [steps_value(KNOWN, steps, k)["v"] for k in range(4)]
        self.assertEqual(found, [("h", ("f", 1)), ("g", ("h", ("f", 1)), 1), ("a",), ("h", ("g", ("h", ("f", 1)), 1))])
        self.assertEqual(steps_value(KNOWN, steps, 0).names, ("v",))
        p = Pattern(x=1, y=2, z=("f", 3))
        self.assertEqual(steps_value(p, (("g", "z", "y"),), 0)["v"], ("g", ("f", 1), 2))
        for value in (-1, 4, True, False, None, "0", (), 1.5, 10 ** 39, [0]):
            with self.assertRaises(InvalidNumber) as caught:
                steps_value(KNOWN, steps, value)
            self.assertIs(caught.exception.value, value)
        with self.assertRaises(InvalidNumber):
            steps_value(KNOWN, (), 0)
        with self.assertRaises(InvalidPattern):
            steps_value(None, None, None)

    def test_values_too_large(self):
        p = powers(x=0)
        steps = (("s", "x"),) + tuple(("s", k) for k in range(1, 500))
        self.assertIs(are_steps(p, steps), True)
        self.assertEqual(steps_value(p, steps, 498).weight, 500)
        with self.assertRaises(TooLarge) as caught:
            steps_value(p, steps, 499)
        self.assertEqual(caught.exception.limit, 500)
        with self.assertRaises(InvalidNumber):
            steps_value(p, steps, 500)
        double = (("d", "x", "x"),) + tuple(("d", k, k) for k in range(1, 400))
        self.assertEqual(steps_value(p, double, 399).size("v"), 2 ** 401 - 1)

    def test_many(self):
        p = Pattern(x=1)
        terms = tuple(("q" + letters(k), "x") for k in range(501))
        found = cheapest_steps_of(p, terms[:500])
        self.assertEqual(len(found), 500)
        self.assertIs(is_cheapest_steps(p, terms[:500], found), True)
        with self.assertRaises(TooLarge) as caught:
            cheapest_steps_of(p, terms)
        self.assertEqual(caught.exception.limit, 500)
        with self.assertRaises(TooLarge):
            cheapest_steps(p, *terms)
        self.assertIs(is_cheapest_steps(p, terms, found), False)
        # Equal values are made once, so many terms need no more steps.
        self.assertEqual(len(cheapest_steps_of(p, terms[:250] * 9)), 250)
        counter = [0]
        great = tuple(different(50, counter) for _ in range(10))
        self.assertEqual(len(cheapest_steps_of(p, great)), 500)
        with self.assertRaises(TooLarge):
            cheapest_steps_of(p, great + (("f", "x"),))

    def test_terms_that_are_no_tuple(self):
        for value in (None, [], ["x"], {}, "x", 0, True, {"x": 1}, Pattern(x=1)):
            with self.assertRaises(InvalidTerm):
                cheapest_steps_of(KNOWN, value)
            with self.assertRaises(InvalidTerm):
                is_cheapest_steps(KNOWN, value, None)
            with self.assertRaises(InvalidPattern):
                cheapest_steps_of(None, value)
        with self.assertRaises(InvalidTerm):
            cheapest_steps(KNOWN, "x", ("f", "z"), None)

    def test_random(self):
        for seed in range(250):
            one = rng(seed)
            values = random_pattern(one)
            p = Pattern.of(values)
            terms = tuple(random_term(one, list(values), 3) for _ in range(one.randrange(4)))
            found = cheapest_steps_of(p, terms)
            self.assertEqual(found, cheapest_steps(p, *terms))
            self.assertIs(are_steps(p, found), True)
            self.assertIs(is_cheapest_steps(p, terms, found), True)
            made = steps_by_hand(values, found)
            self.assertEqual(len(made), len(must_be_made(values, terms)))
            self.assertTrue(all(value in made for value in must_be_made(values, terms)))
            for k, value in enumerate(made):
                self.assertEqual(steps_value(p, found, k), Pattern(v=value))

    def test_other_orders(self):
        """All orders of the steps are judged, and so are steps of which one part is another one."""
        seen = [0, 0]
        for seed in range(60):
            one = rng(seed)
            values = random_pattern(one, many=3)
            p = Pattern.of(values)
            terms = tuple(random_term(one, list(values), 2) for _ in range(2))
            found = cheapest_steps_of(p, terms)
            wanted = must_be_made(values, terms)
            candidates = [tuple(found[k] for k in order) for order in itertools.permutations(range(min(len(found), 4)))]
            for k, step in enumerate(found):
                for at in range(len(step)):
                    for part in ("x", "y", "f", 1, 2, k + 1):
                        candidates.append(found[:k] + (step[:at] + (part,) + step[at + 1:],) + found[k + 1:])
            for steps in candidates:
                good = False
                if are_steps(p, steps):
                    made = steps_by_hand(values, steps)
                    good = len(made) == len(wanted) and all(value in made for value in wanted)
                seen[good] += 1
                self.assertIs(is_cheapest_steps(p, terms, steps), good)
        self.assertTrue(min(seen) > 50)


if __name__ == "__main__":
    unittest.main()
