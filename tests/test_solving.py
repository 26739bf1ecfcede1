"""[5.1], [5.2], stage 5: solving, and papers for it."""

import copy
import unittest

from tests.reference import (
    STRANGE, deep, holed, nested, powers, random_term, random_values, rng, stepped, tall, unified, wide,
)
from termpaths.base.terms import is_term
from termpaths.errors import InvalidPattern, InvalidTerm, TooLarge
from termpaths.patterns import solving as module
from termpaths.patterns.patterns import Pattern
from termpaths.patterns.solving import (
    demanded, demanded_all, is_solving_paper, solved, solved_all, solving_paper, solving_paper_of,
)

XYZ = ("x", "y", "z")
TEN = ("a", "b", "c", "d", "e", "f", "g", "h", "i", "j")
CIRCLE = (("x", ("f", "y")), ("y", ("g", "z", "z")), (("h", "x"), "z"))


def heavy(names):
    """Return equalities that give each name but the last ones a value of 50 new parts."""
    return tuple((name, made(name, 50)) for name in names)


def made(prefix, count):
    """Return a term with this number of different parts, whose operators begin with the prefix."""
    counter = [0]

    def build(many):
        counter[0] += 1
        number = counter[0]
        operator = prefix + "abcdefghij"[number // 10] + "abcdefghij"[number % 10]
        if many == 1:
            return (operator,)
        inner = min(3, many - 1)
        return (operator,) + tuple(build((many - 1) // inner + (k < (many - 1) % inner)) for k in range(inner))

    return build(count)


class SolvedTest(unittest.TestCase):
    def test_ordinary(self):
        s = solved(XYZ, ("x", ("f", "y")), (("f", "z"), "x"))
        self.assertEqual(s, Pattern(x=("f", 1), y=1, z=1))
        self.assertEqual(solved(XYZ), Pattern.free(*XYZ))
        self.assertEqual(solved_all(XYZ, ()), Pattern.free(*XYZ))
        self.assertEqual(solved(("x",), ("x", "x")), Pattern(x=1))
        self.assertEqual(solved(("x",), (("a",), ("a",))), Pattern(x=1))
        self.assertEqual(solved(("x", "y"), (("f", "x", ("a",)), ("f", ("b",), "y"))), Pattern(x=("b",), y=("a",)))
        self.assertEqual(solved(("names", "self"), ("names", "self")), Pattern.of({"names": 1, "self": 1}))

    def test_names_need_not_occur(self):
        self.assertEqual(solved(XYZ, ("z", ("a",))), Pattern(x=1, y=2, z=("a",)))

    def test_none(self):
        for equalities in (
            (("x", ("f", "x")),), (("x", ("a",)), ("x", ("b",))), ((("f", "x"), ("f", "x", "y")),), CIRCLE,
            ((("a",), ("b",)),), ((("f", ("a",)), ("f", ("b",))),), (("x", "y"), ("y", ("f", "x"))),
            ((("g", "x", "y"), ("g", "y", ("f", "x"))),), ((("f", ("f", "x")), ("f", "x")),),
        ):
            self.assertIsNone(solved(XYZ, *equalities))
            self.assertIsNone(solved_all(XYZ, equalities))
            self.assertIsNone(demanded_all(Pattern.free(*XYZ), equalities))

    def test_random(self):
        found = {True: 0, False: 0}
        for seed in range(400):
            equalities = random_equalities(rng(seed), 1 + seed % 4)
            put = unified(equalities)
            result = solved(XYZ, *equalities)
            found[put is not None] += 1
            self.assertEqual(solved_all(XYZ, equalities), result)
            if put is None:
                self.assertIsNone(result)
                continue
            expected = holed({name: deep(name, put) for name in XYZ})
            if all(is_term(value) for value in expected.values()):
                self.assertEqual(result, Pattern(**expected))
            for e, f in equalities:
                self.assertIs(result.same(e, f), True)
        self.assertGreater(min(found.values()), 50)

    def test_small_weight_and_great_size(self):
        names = TEN
        equalities = tuple((names[k], ("t", ("d", names[k + 1], names[k + 1]), names[k + 1], names[k + 1])) for k in range(9))
        s = solved(names, *equalities)
        self.assertEqual(s.weight, 19)
        self.assertEqual(s.holes, 1)
        self.assertGreater(s.size("a"), 2 ** 18)
        tower = tuple((names[k], tall(7, names[k + 1])) for k in range(9))
        self.assertEqual(solved(names, *tower).height("a"), 63)
        self.assertIsNone(solved(names, *tower, ("a", tall(1, "j"))))

    def test_weights(self):
        self.assertEqual(solved(TEN, *heavy(TEN)).weight, 500)
        more = heavy(TEN[:9]) + (("j", made("j", 51)),)
        for call in (lambda: solved(TEN, *more), lambda: solved_all(TEN, more), lambda: solving_paper(TEN, *more),
                     lambda: solving_paper_of(TEN, more), lambda: demanded(Pattern.free(*TEN), *more)):
            with self.assertRaises(TooLarge) as caught:
                call()
            self.assertEqual(caught.exception.limit, 500)
        self.assertIsNone(solved(TEN, *more, ("a", "b")))
        self.assertEqual(solving_paper(TEN, *more, ("a", "b"))[0], "refuted")
        self.assertIs(is_solving_paper(TEN, more, ("solved", solved(TEN, *heavy(TEN)))), False)
        self.assertIs(is_solving_paper(TEN, more, ("refuted", (), ("clash", 0))), False)
        self.assertIs(is_solving_paper(TEN, more, None), False)
        self.assertIs(is_solving_paper(TEN, heavy(TEN), ("solved", solved(TEN, *heavy(TEN)))), True)

    def test_errors_of_names(self):
        for names in STRANGE + (
            ["x"], ("y", "x"), ("x", "x"), tuple("abcdefghijk"), ("X",), ("x", 1), "x", {"x": 1}, ("x", None),
            ("abcdefghi",), (("x",),), (["x"],), Pattern(x=1),
        ):
            for call in (lambda: solved(names), lambda: solved_all(names, None), lambda: solving_paper(names, None),
                         lambda: solving_paper_of(names, ()), lambda: is_solving_paper(names, None, None)):
                with self.assertRaises(InvalidPattern, msg=names):
                    call()

    def test_errors_of_equalities(self):
        pattern = Pattern.free(*XYZ)
        for value in STRANGE + (
            "x", ("x",), ("x", "y", "z"), ["x", "y"], ("x", "v"), ("x", 1), ("x", ("f", 2)), (("f", "v"), "x"),
            ("x", wide(61)), ("x", tall(8)), ("x", nested(20)), ("x", True), (pattern, pattern),
        ):
            if value in (("f", "X"), ("x", "y")):
                continue
            for call in (lambda: solved(XYZ, ("x", "y"), value), lambda: solved_all(XYZ, (value,)),
                         lambda: solving_paper(XYZ, value), lambda: solving_paper_of(XYZ, (("x", "y"), value)),
                         lambda: is_solving_paper(XYZ, (value,), None), lambda: demanded(pattern, value),
                         lambda: demanded_all(pattern, (("x", ("f", "x")), value))):
                with self.assertRaises(InvalidTerm, msg=value):
                    call()
        for value in (None, [], [("x", "y")], {}, "x", 3, True, pattern):
            for call in (lambda: solved_all(XYZ, value), lambda: solving_paper_of(XYZ, value),
                         lambda: is_solving_paper(XYZ, value, None), lambda: demanded_all(pattern, value)):
                with self.assertRaises(InvalidTerm):
                    call()


def random_equalities(one, many):
    return tuple((random_term(one, list(XYZ), one.randrange(3)), random_term(one, list(XYZ), one.randrange(3)))
                 for _ in range(many))


class PaperTest(unittest.TestCase):
    def test_solved(self):
        kind, pattern = solving_paper(XYZ, ("x", ("f", "y")))
        self.assertEqual((kind, pattern), ("solved", Pattern(x=("f", 1), y=1, z=2)))
        equalities = (("x", ("f", "y")),)
        self.assertIs(is_solving_paper(XYZ, equalities, ("solved", pattern)), True)
        for wrong in (Pattern(x=("f", 1), y=1, z=1), Pattern.free(*XYZ), Pattern(x=("f", 1), y=2, z=3),
                      Pattern(x=("f", 1), y=1), None, (), "solved"):
            self.assertIs(is_solving_paper(XYZ, equalities, ("solved", wrong)), False)
        for value in STRANGE + (pattern, ["solved", pattern], ("solved",), ("solved", pattern, pattern),
                                ("refuted", pattern), ("Solved", pattern), (None, pattern), (pattern, pattern)):
            self.assertIs(is_solving_paper(XYZ, equalities, value), False)

    def test_refuted(self):
        for equalities in ((("x", ("a",)), ("x", ("b",))), CIRCLE, (("x", ("f", "x")),), ((("a",), ("b",)),)):
            for paper in (solving_paper(XYZ, *equalities), solving_paper_of(XYZ, equalities)):
                self.assertEqual((paper[0], len(paper)), ("refuted", 3))
                self.assertIs(is_solving_paper(XYZ, equalities, paper), True)
                self.assertIs(is_solving_paper(XYZ, (), paper), False)
                self.assertIs(is_solving_paper(XYZ, equalities[:-1], paper), False)

    def test_random(self):
        ends = {"clash": 0, "within": 0, "solved": 0}
        for seed in range(600):
            one = rng(seed)
            equalities = random_equalities(one, 1 + seed % 6)
            paper = solving_paper(XYZ, *equalities)
            self.assertIs(is_solving_paper(XYZ, equalities, paper), True)
            self.assertEqual(paper[0] == "refuted", unified(equalities) is None)
            ends[paper[2][0] if paper[0] == "refuted" else "solved"] += 1
            if paper[0] == "refuted":
                self.assertEqual(judged(equalities, paper), True)
                for _ in range(20):
                    other = spoiled(one, paper)
                    self.assertIs(is_solving_paper(XYZ, equalities, other), judged(equalities, other), other)
        self.assertGreater(min(ends.values()), 30)

    def test_many_equalities(self):
        names = TEN
        one = rng(5)
        leaves = list(names[:9])
        equalities = tuple((random_term(one, leaves, 3), "j") for _ in range(300))
        self.assertIs(is_solving_paper(names, equalities, solving_paper_of(names, equalities)), True)
        long = tuple((names[k], ("s", names[k + 1])) for k in range(9)) + (("j", ("s", "a")),)
        paper = solving_paper_of(names, long * 30)
        self.assertEqual(paper[2][0], "within")
        self.assertIs(is_solving_paper(names, long * 30, paper), True)

    def test_names_that_are_made_equal_in_many_orders(self):
        ends = {"clash": 0, "within": 0, "solved": 0}
        for seed in range(300):
            one = rng(seed)
            equalities = [(one.choice(TEN), one.choice(TEN)) for _ in range(9)]
            equalities += [(one.choice(TEN), ("f", one.choice(TEN))) for _ in range(2)] + [(one.choice(TEN), ("a",))]
            one.shuffle(equalities)
            paper = solving_paper(TEN, *equalities)
            self.assertEqual(paper[0] == "refuted", unified(equalities) is None)
            self.assertIs(is_solving_paper(TEN, tuple(equalities), paper), True)
            ends[paper[2][0] if paper[0] == "refuted" else "solved"] += 1
            if paper[0] == "refuted":
                self.assertTrue(judged(equalities, paper))
                self.assertEqual(needed_lines(paper), len(paper[1]))
        self.assertGreater(min(ends.values()), 10)

    def test_merged_terms_before_a_circle(self):
        # x and y are one value, so the circle leads through terms of several equalities.
        equalities = ((("g", "x", "y"), ("g", ("f", "z"), ("f", ("f", "v")))), ("x", "y"), ("v", ("k", "z", "z")),
                      ("z", ("f", "v")))
        names = ("v", "x", "y", "z")
        paper = solving_paper(names, *equalities)
        self.assertEqual((paper[0], paper[2][0]), ("refuted", "within"))
        self.assertIs(is_solving_paper(names, equalities, paper), True)


def needed_lines(paper):
    """Return how many lines the end of a refutation needs."""
    _, lines, end = paper
    todo = list(end[1]) if end[0] == "within" else [end[1]]
    found = set()
    while todo:
        number = todo.pop()
        if number not in found:
            found.add(number)
            reason = lines[number][2]
            todo += {"given": [], "part": reason[1:2], "turn": reason[1:], "chain": reason[1:]}[reason[0]]
    return len(found)


def judged(equalities, paper):
    """Tell whether a value is a refutation, line by line, by the words of the document."""
    _, lines, end = paper
    for number, (e, f, reason) in enumerate(lines):
        earlier = lines[:number]
        if any(type(part) is bool or (type(part) is int and part < 0) for part in reason):
            return False
        try:
            if reason[0] == "given":
                right = equalities[reason[1]] == (e, f)
            elif reason[0] == "part":
                a, b, _ = earlier[reason[1]]
                right = (isinstance(a, tuple) and isinstance(b, tuple) and (a[0], len(a)) == (b[0], len(b))
                         and (a[1:][reason[2]], b[1:][reason[2]]) == (e, f))
            elif reason[0] == "turn":
                right = earlier[reason[1]][:2] == (f, e)
            else:
                a, b = earlier[reason[1]], earlier[reason[2]]
                right = a[1] == b[0] and (a[0], b[1]) == (e, f)
        except IndexError:
            return False
        if not right:
            return False
    ends = (end[1],) if end[0] == "clash" else end[1]
    if not ends or any(type(number) is bool or not 0 <= number < len(lines) for number in ends):
        return False
    if end[0] == "clash":
        a, b, _ = lines[end[1]]
        return isinstance(a, tuple) and isinstance(b, tuple) and (a[0], len(a)) != (b[0], len(b))
    for k, number in enumerate(ends):
        a, b, _ = lines[number]
        following = lines[ends[(k + 1) % len(ends)]][0]
        if not isinstance(a, str) or not isinstance(b, tuple) or not inside(following, b):
            return False
    return True


def inside(name, value):
    return value == name if isinstance(value, str) else any(inside(name, part) for part in value[1:])


def spoiled(one, paper):
    """Return a refutation with one of its parts changed, perhaps to an equal one."""
    _, lines, end = paper
    lines = [list(line) for line in lines]
    kind = one.randrange(6)
    number = one.randrange(len(lines))
    if kind == 0:
        lines[number][one.randrange(2)] = random_term(one, list(XYZ), 1)
    elif kind == 1:
        reason = list(lines[number][2])
        place = 1 + one.randrange(len(reason) - 1)
        reason[place] = one.choice((0, 1, 2, number, number + 1, -1, len(lines), True, False))
        lines[number][2] = tuple(reason)
    elif kind == 2:
        lines[number][2] = one.choice((("given", 0), ("turn", 0), ("part", 0, 0), ("chain", 0, 1), ("given", 1)))
    elif kind == 3:
        del lines[number]
        lines = lines or [["x", "x", ("given", 0)]]
    elif kind == 4:
        other = one.randrange(len(lines))
        end = one.choice((("clash", other), ("within", (other,)), ("within", (other, number)), ("within", ())))
    else:
        lines[number], lines[0] = lines[0], lines[number]
    return ("refuted", tuple(tuple(line) for line in lines), end)


class JudgeTest(unittest.TestCase):
    LINES = (
        ("x", ("f", "y"), ("given", 0)), (("f", "y"), "x", ("turn", 0)), ("x", ("f", ("g", "x")), ("given", 1)),
        (("f", "y"), ("f", ("g", "x")), ("chain", 1, 2)), ("y", ("g", "x"), ("part", 3, 0)),
    )
    GIVEN = (("x", ("f", "y")), ("x", ("f", ("g", "x"))), (("f", "x"), ("g", "x")), ("x", "y"))

    def judge(self, lines, end):
        return is_solving_paper(XYZ, self.GIVEN, ("refuted", lines, end))

    def test_circles(self):
        for end in (("within", (0, 4)), ("within", (4, 0)), ("within", (2,)), ("within", (2, 2)), ("within", (0, 4, 2)),
                    ("within", (0, 4, 0, 4))):
            self.assertIs(self.judge(self.LINES, end), True)
        for end in (("within", (0,)), ("within", (4,)), ("within", ()), ("within", (1,)), ("within", (3,)), ("within", 2),
                    ("within", [2]), ("within", (5,)), ("within", (-3,)), ("within", (2, None)), ("within", (2.0,)),
                    ("within", (0, 4, 1)), ("within", (0, 0)), ("within",), ("within", (2,), (2,)), ["within", (2,)],
                    ("clash", 3), ("clash", 4), ("clash", 2), None, (), ("other", (2,)), ("clash", (2,))):
            self.assertIs(self.judge(self.LINES, end), False, end)

    def test_a_variable_that_is_the_second_term(self):
        # x is a part of x, but x is a variable itself.
        lines = (("x", "y", ("given", 3)), ("y", "x", ("turn", 0)), ("x", "x", ("chain", 0, 1)))
        self.assertIs(self.judge(lines, ("within", (2,))), False)
        self.assertIs(self.judge(lines, ("within", (0, 1))), False)

    def test_clashes(self):
        clash = (("f", "x"), ("g", "x"), ("given", 2))
        self.assertIs(self.judge((clash,), ("clash", 0)), True)
        self.assertIs(self.judge(self.LINES + (clash,), ("clash", 5)), True)
        for end in (("clash", 1), ("clash", -1), ("clash", False), ("clash", None), ("clash", "0"), ("clash",),
                    ("clash", 0, 0), ["clash", 0], ("within", (0,))):
            self.assertIs(self.judge((clash,), end), False)
        given = ((("f", "x"), ("f", "x", "y")),)
        self.assertIs(is_solving_paper(XYZ, given, ("refuted", (given[0] + (("given", 0),),), ("clash", 0))), True)

    def test_lines_that_do_not_follow(self):
        good = ("within", (2,))
        self.assertIs(self.judge(self.LINES, good), True)
        for number, line in (
            (0, ("x", ("f", "z"), ("given", 0))), (0, (("f", "y"), "x", ("given", 0))), (0, ("x", ("f", "y"), ("given", 1))),
            (0, ("x", ("f", "y"), ("given", False))), (0, ("x", ("f", "y"), ("given", 4))),
            (0, ("x", ("f", "y"), ("given", -4))), (0, ("x", ("f", "y"), ("given",))),
            (0, ("x", ("f", "y"), ("given", 0, 0))), (0, ("x", ("f", "y"), ["given", 0])), (0, ("x", ("f", "y"))),
            (0, ("x", ("f", "y"), ("given", 0), 0)), (0, ["x", ("f", "y"), ("given", 0)]), (0, None), (0, ()),
            (0, ("x", ("f", "y"), ())), (0, ("x", ("f", "y"), None)), (0, ("x", ("f", "y"), ("turn", 1))),
            (0, ("x", ("f", "v"), ("given", 0))), (0, ("x", 1, ("given", 0))),
            (1, (("f", "y"), "x", ("turn", 1))), (1, (("f", "y"), "x", ("turn", 2))), (1, ("x", ("f", "y"), ("turn", 0))),
            (1, (("f", "y"), "x", ("turn", False))), (1, (("f", "y"), "x", ("turn", 0, 0))),
            (1, (("f", "y"), "x", ("turn", -5))), (1, (("f", "y"), "x", ("turn",))), (1, (("f", "y"), "x", ("chain", 0))),
            (1, (("f", "y"), "x", (None, 0))), (1, (("f", "y"), "x", ("part", 0))),
            (3, (("f", "y"), ("f", ("g", "x")), ("part", 1, 2))), (3, (("f", "y"), ("f", ("g", "x")), (1, 1, 2))), (1, (("f", "y"), "x", "turn")),
            (3, (("f", "y"), ("f", ("g", "x")), ("chain", 2, 1))), (3, (("f", "y"), ("f", ("g", "x")), ("chain", 1, 3))),
            (3, (("f", "y"), ("f", ("g", "x")), ("chain", 1, 4))), (3, (("f", "y"), ("f", ("g", "x")), ("chain", 1))),
            (3, (("f", "y"), ("f", "y"), ("chain", 1, 2))), (3, (("f", "y"), ("f", ("g", "x")), ("chain", True, 2))),
            (3, (("f", "y"), ("f", ("g", "x")), ("chain", 1, 2, 2))), (3, (("f", "y"), ("f", ("g", "x")), ("chain", 1, -3))),
            (4, ("y", ("g", "x"), ("part", 3, 1))), (4, ("y", ("g", "x"), ("part", 3))), (4, ("y", ("g", "x"), ("part", 4, 0))),
            (4, ("y", ("g", "x"), ("part", 3, -1))), (4, ("y", ("g", "x"), ("part", 3, False))),
            (4, (("g", "x"), "y", ("part", 3, 0))), (4, ("y", ("g", "x"), ("part", 0, 0))),
            (4, ("y", ("g", "x"), ("part", 2, 0))), (4, ("y", ("g", "x"), ("part", 3, 0, 0))),
            (4, ("y", ("g", "x"), ("piece", 3, 0))), (4, ("y", ("g", "x"), (None, 3, 0))),
        ):
            lines = self.LINES[:number] + (line,) + self.LINES[number + 1:]
            self.assertIs(self.judge(lines, good), False, line)
        for lines in (list(self.LINES), None, {}, "lines", 0, ()):
            self.assertIs(self.judge(lines, good), False)
        self.assertIs(is_solving_paper(XYZ, self.GIVEN, ("solved", self.LINES, good)), False)
        self.assertIs(is_solving_paper(XYZ, self.GIVEN, ("refuted", self.LINES)), False)

    def test_parts_of_terms_with_other_operators(self):
        lines = ((("f", "x"), ("g", "x"), ("given", 2)), ("x", "x", ("part", 0, 0)))
        self.assertIs(self.judge(lines[:1], ("clash", 0)), True)
        self.assertIs(self.judge(lines, ("clash", 0)), False)

    def test_lines_in_an_order_that_comes_later(self):
        backwards = (self.LINES[1], self.LINES[0])
        lines = ((backwards[0][0], backwards[0][1], ("turn", 1)), backwards[1], ("x", ("f", ("g", "x")), ("given", 1)))
        self.assertIs(self.judge(lines, ("within", (2,))), False)

    def test_lines_that_are_not_needed(self):
        self.assertIs(self.judge(self.LINES + self.LINES[:3], ("within", (7,))), True)

    def test_no_refutation_of_what_has_a_solution(self):
        self.assertIs(is_solving_paper(XYZ, (("x", "y"),), ("solved", Pattern(x=1, y=1, z=2))), True)
        self.assertIs(is_solving_paper(XYZ, CIRCLE, ("solved", Pattern.free(*XYZ))), False)

    def test_strange_values(self):
        for value in STRANGE:
            self.assertIs(is_solving_paper(XYZ, CIRCLE, value), False)
            self.assertIs(is_solving_paper(XYZ, CIRCLE, ("refuted", value, ("clash", 0))), False)
            self.assertIs(self.judge(self.LINES, value), False)
            self.assertIs(self.judge((value,) + self.LINES, ("within", (3,))), False)


class DemandedTest(unittest.TestCase):
    def test_ordinary(self):
        p = Pattern(x=1, y=("f", 2), z=2)
        self.assertEqual(demanded(p, ("x", "y")), Pattern(x=("f", 1), y=("f", 1), z=1))
        self.assertEqual(demanded(p, ("x", "z"), ("z", ("a",))), Pattern(x=("a",), y=("f", ("a",)), z=("a",)))
        self.assertIsNone(demanded(p, ("y", "z")))
        self.assertIsNone(demanded(p, ("y", ("g", "z"))))

    def test_no_equalities(self):
        p = stepped(Pattern(x=1, y=2), (("x", ("d", "x", "y")),), 60)
        self.assertEqual(demanded(p), p)
        self.assertEqual(demanded_all(p, ()), p)
        self.assertEqual(demanded(p, ("x", "x"), (("f", "y"), ("f", "y"))), p)

    def test_equalities_that_hold(self):
        p = Pattern(x=1, y=("f", 1, 2))
        self.assertEqual(demanded(p, ("y", "y")), p)
        self.assertEqual(demanded(Pattern(x=1, y=("f", 1), z=1), ("y", ("f", "z")), ("x", "z")),
                         Pattern(x=1, y=("f", 1), z=1))

    def test_random(self):
        for seed in range(300):
            one = rng(seed)
            values = random_values(one, XYZ, 3, 1)
            p = Pattern(**values)
            equalities = random_equalities(one, 1 + seed % 2)
            put = unified(equalities + tuple(values.items()))
            result = demanded(p, *equalities)
            self.assertEqual(demanded_all(p, equalities), result)
            if put is None:
                self.assertIsNone(result)
                continue
            expected = holed({name: deep(name, put) for name in XYZ})
            if all(is_term(value) for value in expected.values()):
                self.assertEqual(result, Pattern(**expected))
            self.assertLessEqual(result, p)

    def test_great_values(self):
        p = powers(x=200, y=0)
        self.assertIsNone(demanded(p, ("x", "y")))
        self.assertIsNone(demanded(p, ("x", ("s", "x"))))
        q = stepped(Pattern(x=1, y=2), (("x", ("d", "x", "x")), ("y", ("d", "y", "y"))), 240)
        self.assertEqual(q.weight, 482)
        found = demanded(q, ("x", "y"))
        self.assertEqual((found.weight, found.holes, found.size("x")), (241, 1, 2 ** 241 - 1))

    def test_weights(self):
        p = powers(x=498).beside(Pattern(y=1))
        self.assertEqual(p.weight, 500)
        self.assertEqual(demanded(p, ("y", ("s", "x"))).weight, 500)
        with self.assertRaises(TooLarge) as caught:
            demanded(p, ("y", ("s", ("s", "x"))))
        self.assertEqual(caught.exception.limit, 500)
        self.assertIsNone(demanded(p, ("y", ("s", ("s", "x"))), ("x", ("a",))))

    def test_errors(self):
        for value in STRANGE:
            if value == Pattern(x=1):
                continue
            for call in (lambda: demanded(value, None), lambda: demanded_all(value, None)):
                with self.assertRaises(InvalidPattern):
                    call()
        with self.assertRaises(InvalidTerm):
            demanded(powers(x=499), ("x", "y"))

    def test_arguments_stay(self):
        equalities = (("x", ("f", "y")), ("y", "z"))
        before = copy.deepcopy(equalities)
        p = Pattern.free(*XYZ)
        demanded_all(p, equalities)
        self.assertEqual((equalities, p), (before, Pattern.free(*XYZ)))


class FileTest(unittest.TestCase):
    def test_defined_there(self):
        for name in ("solved", "solved_all", "solving_paper", "solving_paper_of", "is_solving_paper", "demanded",
                     "demanded_all"):
            self.assertEqual(getattr(module, name).__module__, "termpaths.patterns.solving")


if __name__ == "__main__":
    unittest.main()
