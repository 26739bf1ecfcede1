"""[18.1], stage 18: texts."""

import unittest

from tests.hand import FORK, LOOP, NAMES, TURN, random_action, random_program
from tests.reference import STRANGE, different, nested, powers, random_term, random_values, rng, stepped, tall, wide
from tests.test_programs import WRONG_PROGRAMS
from termpaths.base.terms import is_term
from termpaths.errors import InvalidPattern, InvalidProgram, InvalidRun, InvalidTable, InvalidTerm, ParseError, TooLarge
from termpaths.patterns.patterns import Pattern
from termpaths.programs.programs import is_program, make_program, program_from
from termpaths.tables.tables import table
from termpaths.text import formats as module
from termpaths.text import tables as other_module
from termpaths.text.formats import (
    format_action, format_edge, format_pattern, format_program, format_run, format_term, parse_action, parse_edge,
    parse_pattern, parse_program, parse_run, parse_term,
)
from termpaths.text.tables import table_text

PAIRS = (
    (format_term, parse_term), (format_pattern, parse_pattern), (format_action, parse_action), (format_edge, parse_edge),
    (format_program, parse_program), (format_run, parse_run),
)
PARSERS = tuple(parse for _, parse in PAIRS)
SIGNS = (" ", "\n", "0", "1", "x", ",", "(", ")", "?", ";", "=", ":", "-", ">", ", ", "; ", "A", "\t", "\u0664", "\u00e9", "00", "a()")
TEN = tuple("abcdefghij")


def mutations(text):
    """Return texts in which one sign is put in, left out or changed."""
    found = []
    for k in range(len(text) + 1):
        for sign in SIGNS:
            found += [text[:k] + sign + text[k:], text[:k] + sign + text[k + 1:]]
        found += [text[:k] + text[k + 1:], text[:k], text[k:], text[:k] + text[k:k + 1] * 2 + text[k + 1:]]
    return [one for one in dict.fromkeys(found) if one != text]


class FormatsTest(unittest.TestCase):
    def test_written(self):
        self.assertEqual(
            [format_program(FORK), format_pattern(Pattern(x=7, y=("f", 7, ("a",))))],
            ["names x y z\npoints 2\n0 -> 1: x := f(z); y := z\n0 -> 1: x := f(y)", "x = ?1; y = f(?1, a())"])
        self.assertEqual(parse_action("x := ?1; y := ?1"), (("x", 1), ("y", 1)))
        self.assertEqual(table_text(LOOP, table(LOOP)), "  0: x = ?1; y = ?2\n  1: x = ?1; y = f(?1)")

    def test_terms(self):
        for term, text in (("x", "x"), (3, "?3"), (500, "?500"), (("a",), "a()"), (("f", "x", ("g", 1)), "f(x, g(?1))"), (("x", "x"), "x(x)"),
                           ("abcdefgh", "abcdefgh"), (("g", ("g", ("a",), ("b",)), "x", "y"), "g(g(a(), b()), x, y)"),
                           (tall(7), "s(" * 7 + "x" + ")" * 7), (tall(7, ("a",)), "s(" * 7 + "a()" + ")" * 7)):
            self.assertEqual(format_term(term), text)
            self.assertEqual(parse_term(text), term)
        for text in ("", " ", "X", "x ", " x", "x\n", "?", "?0", "?01", "?501", "?00003", "?1000", "?-1", "? 1", "??1", "3", "f(x", "f(x))", "f(x,y)", "f( x)", "f(x )",
                     "f (x)", "f(x,  y)", "f(x, )", "f(, x)", "f(,)", "f( )", "()", "(x)", "f()x", "f()()", "f(x)(y)", "abcdefghi", "abcdefghi()", "f(x, x, x, x)", "a,b", "a, b",
                     "f(?1", "f(?)", "f(x)\n", "f(x)y", "f[x]", "f(x;y)", "x := y", "x = y", "f(?1?2)", "f(x y)", "\u00e9", "?\u0661", "F(x)", "f(X)", "f(x, y", "?1x", "x?1"):
            with self.assertRaises(ParseError):
                parse_term(text)

    def test_limits_of_terms(self):
        for many in (1, 2, 59, 60, 61, 62, 100):
            text = nested_text(wide(many))
            if many <= 60:
                self.assertEqual(parse_term(text), wide(many))
                self.assertEqual(format_term(wide(many)), text)
                continue
            with self.assertRaises(ParseError):
                parse_term(text)
            with self.assertRaises(InvalidTerm):
                format_term(wide(many))
        for height in (6, 7, 8, 9, 20, 400, 30000):
            text = "s(" * height + "x" + ")" * height
            for parse, before in ((parse_term, ""), (parse_action, "x := "), (parse_edge, "0 -> 0: x := "), (parse_program, "names x\npoints 1\n0 -> 0: x := ")):
                if height <= 7:
                    parse(before + text)
                    continue
                with self.assertRaises(ParseError):
                    parse(before + text)
        for text in ("x" * 100000, "(" * 100000, "f(" * 50000, "f(x, " * 20000, "?" + "1" * 90000, "f(" + "x, " * 30000 + "x)", "x; " * 30000, " " * 99999, "\n" * 99999,
                     "0 " * 40000 + "0", "; ".join(["x := y"] * 9000), "; ".join(["x = ?1"] * 9000), "names " + "x " * 9000 + "x\npoints 1", "a()" * 30000):
            for parse in PARSERS:
                with self.assertRaises(ParseError):
                    parse(text)

    def test_patterns(self):
        for values, text in (({"x": 1}, "x = ?1"), ({"y": 5, "x": ("g", 7, 5)}, "x = g(?1, ?2); y = ?2"), ({"a": ("a",), "abcdefgh": 9}, "a = a(); abcdefgh = ?1"),
                             ({name: k + 1 for k, name in enumerate(TEN)}, "; ".join(f"{name} = ?{k + 1}" for k, name in enumerate(TEN)))):
            self.assertEqual(format_pattern(Pattern.of(values)), text)
            self.assertEqual(parse_pattern(text), Pattern.of(values))
        for text in ("x = ?2", "x = ?1; y = ?3", "y = ?1; x = ?2", "x = ?2; y = ?1", "x = ?1; x = ?1", "x = ?1; x = ?2", "x = y", "x = f(x)", "x = ?1;y = ?2", "x=?1",
                     "x =  ?1", "x = ?1; ", "; x = ?1", "x = ?1 ; y = ?2", "X = ?1", "x := ?1", "x = ?1 = ?1", "", "x", "x = ", " = ?1", "?1", "x = ?01", "x = ?1\n", "x = ?1\ny = ?2",
                     "x = f(?2, ?1)", "x = f(?1, ?3)", "x = ?0", "abcdefghi = ?1", "; ".join(f"{name} = ?{k + 1}" for k, name in enumerate(TEN + ("k",)))):
            with self.assertRaises(ParseError):
                parse_pattern(text)
        self_named = Pattern.of({"self": 1, "values": 2})
        self.assertEqual(parse_pattern(format_pattern(self_named)), self_named)

    def test_weights_of_patterns(self):
        counter = [0]
        values = {name: different(50, counter) for name in TEN}
        p = Pattern.of(values)
        self.assertEqual(parse_pattern(format_pattern(p)), p)
        more = dict(values, j=("z", values["j"]))
        text = "; ".join(f"{name} = {nested_text(more[name])}" for name in TEN)
        with self.assertRaises(ParseError):
            parse_pattern(text)
        with self.assertRaises(TooLarge):
            Pattern.of(more)
        # As many holes as there can be.
        holes = {name: ("g", *[("g", *[("g", 27 * k + 9 * a + 3 * b + 1, 27 * k + 9 * a + 3 * b + 2, 27 * k + 9 * a + 3 * b + 3) for b in range(3)]) for a in range(3)])
                 for k, name in enumerate(TEN)}
        p = Pattern.of(holes)
        self.assertEqual(p.holes, 270)
        self.assertEqual(parse_pattern(format_pattern(p)), p)

    def test_actions_and_edges(self):
        for action, text in (((), "skip"), ((("x", "y"),), "x := y"), ((("skip", "skip"),), "skip := skip"), ((("x", ("f", 3, "y")), ("y", 500)), "x := f(?3, y); y := ?500"),
                             (tuple((name, "a") for name in TEN), "; ".join(f"{name} := a" for name in TEN)),
                             ((("a", ("g", "b", "c", ("g", "d", "e", "f"))), ("b", ("g", "g", "h", ("h", "i", "j")))), "a := g(b, c, g(d, e, f)); b := g(g, h, h(i, j))")):
            self.assertEqual(format_action(action), text)
            self.assertEqual(parse_action(text), action)
            for first, last in ((0, 0), (0, 59), (59, 7), (10, 0)):
                self.assertEqual(format_edge((first, action, last)), f"{first} -> {last}: {text}")
                self.assertEqual(parse_edge(f"{first} -> {last}: {text}"), (first, action, last))
        for text in ("", "skip;", "skip; x := y", "Skip", "skip ", " skip", "x := y; ", "y := x; x := y", "x := y; x := y", "x := y; x := z", "x = y", "x:=y", "x :=y", "x := y;y := x",
                     "x := ", ":= x", "x := y := z", "x", "x := ?0", "X := y", "x := y\n", "()", "abcdefghi := x",
                     "; ".join(f"{name} := a" for name in TEN + ("k",)), "a := g(b, c, g(d, e, f)); b := g(g, h, h(i, j)); c := k", "a := g(b, c, g(d, e, f)); b := g(g, h, h(i, j, k))"):
            for parse, before in ((parse_action, ""), (parse_edge, "0 -> 1: ")):
                with self.assertRaises(ParseError):
                    parse(before + text)
        for text in ("0 -> 1", "0 -> 1:", "0 -> 1: ", "0 -> 1:skip", "0->1: skip", "0 -> 60: skip", "60 -> 0: skip", "00 -> 1: skip", "0 -> 01: skip", "-1 -> 0: skip", "0 -> 1: skip: skip",
                     "0 -> 1 -> 2: skip", "x -> 1: skip", "0 -> : skip", " -> 0: skip", "0 ->  1: skip", "0 -> 1 : skip", "0 -> 1: 0 -> 1: skip", "0 -> 10000: skip", "0 -> 1: skip\n"):
            with self.assertRaises(ParseError):
                parse_edge(text)

    def test_programs(self):
        for program, text in (((("x",), 1, ()), "names x\npoints 1"), ((TEN, 60, ()), "names a b c d e f g h i j\npoints 60"),
                              ((("x", "y"), 2, ((1, (), 0), (1, (), 0))), "names x y\npoints 2\n1 -> 0: skip\n1 -> 0: skip"),
                              (program_from(("x",), ((0, (), 0),) * 120), "names x\npoints 1" + "\n0 -> 0: skip" * 120)):
            self.assertEqual(format_program(program), text)
            self.assertEqual(parse_program(text), program)
        good = "names x y\npoints 2\n0 -> 1: x := y"
        parse_program(good)
        for text in ("", "names x", "points 1", "names x\npoints 1\n", "\nnames x\npoints 1", "names x\n\npoints 1", "names\npoints 1", "names \npoints 1", "names x \npoints 1",
                     "names  x\npoints 1", "names y x\npoints 1", "names x x\npoints 1", "names X\npoints 1", "names x,y\npoints 1", "names x\npoints 0", "names x\npoints 61",
                     "names x\npoints 01", "names x\npoints", "names x\npoints ", "names x\npoints one", "names x\npoints 1 ", "names x\npoints  1", "points 1\nnames x",
                     "names a b c d e f g h i j k\npoints 1", "names abcdefghi\npoints 1", "names x\npoints 1\n0 -> 1: skip", "names x\npoints 1\n0 -> 0: y := x", "names x\npoints 1\n0 -> 0: x := y",
                     "names x\npoints 1" + "\n0 -> 0: skip" * 121, "names x\npoints 1\n0 -> 0: skip\n", "names x\npoints 1\n\n0 -> 0: skip", "names x / points 1", "names x\r\npoints 1",
                     "names x\npoints 10000", "names x\n1", "names x\npoint 1", "x\npoints 1", "name x\npoints 1", "Names x\npoints 1", "names x\npoints 1\nskip", "names x\npoints 1\n0 -> 0: skip 0 -> 0: skip"):
            with self.assertRaises(ParseError):
                parse_program(text)

    def test_runs(self):
        for run, text in (((), "-"), ((0,), "0"), ((0, 1, 1), "0 1 1"), ((9999, 10, 100), "9999 10 100"), ((7,) * 200, " ".join("7" * 200))):
            self.assertEqual(format_run(run), text)
            self.assertEqual(parse_run(text), run)
        for text in ("", " ", "--", "-1", "- ", " -", "0 ", " 0", "0  1", "00", "01", "0 01", "10000", "0,1", "x", "0 -", "- 0", "0\n", "0\n1", "1 2 3 x", " ".join("7" * 201), "\u0661", "1.0", "+1"):
            with self.assertRaises(ParseError):
                parse_run(text)
        for value in ((10000,), (-1,), (True,), (0, None), [0], (0,) * 201, "0 1", None, 0, (0, "1"), ((0,),), {}, {0: 1}, (10 ** 39,)):
            with self.assertRaises(InvalidRun):
                format_run(value)

    def test_mutations(self):
        """A text with one sign put in, left out or changed is the text of another value, or of none."""
        for parse, form, text in (
            (parse_term, format_term, "f(x, g(?1), a())"), (parse_pattern, format_pattern, "x = f(?1, ?2); y = ?2; z = a()"), (parse_action, format_action, "x := f(y, ?3); y := ?10"),
            (parse_edge, format_edge, "0 -> 12: x := y; y := a()"), (parse_program, format_program, "names x y\npoints 3\n0 -> 1: x := y\n2 -> 1: skip"), (parse_run, format_run, "0 17 3 1000"),
            (parse_run, format_run, "-"), (parse_action, format_action, "skip"),
        ):
            self.assertEqual(form(parse(text)), text)
            read = 0
            for other in mutations(text):
                try:
                    value = parse(other)
                except ParseError:
                    continue
                read += 1
                self.assertEqual(form(value), other)
            self.assertLess(read, len(mutations(text)) // 2)

    def test_random(self):
        for seed in range(200):
            one = rng(seed)
            term = random_term(one, ["x", "y", 1, 2, 500], 4)
            if is_term(term):
                self.assertEqual(parse_term(format_term(term)), term)
            p = Pattern.of(random_values(one, NAMES, 3, 3))
            self.assertEqual(parse_pattern(format_pattern(p)), p)
            action = random_action(one, NAMES, 2)
            self.assertEqual(parse_action(format_action(action)), action)
            self.assertEqual(parse_edge(format_edge((seed % 60, action, 3))), (seed % 60, action, 3))
            program = random_program(seed)
            self.assertEqual(parse_program(format_program(program)), program)
            run = tuple(one.randrange(10 ** one.randrange(1, 5)) for _ in range(one.randrange(9)))
            self.assertEqual(parse_run(format_run(run)), run)

    def test_other_values(self):
        for value in (None, True, False, 0, 1, (), [], {}, ("x",), ["x"], {"x": 1}, b"x", b"skip", Pattern(x=1), FORK, LOOP, (("x", "y"),)):
            for parse in PARSERS:
                with self.assertRaises(ParseError):
                    parse(value)
        for value in STRANGE:
            if not isinstance(value, str):
                for parse in PARSERS:
                    with self.assertRaises(ParseError):
                        parse(value)

    def test_errors_of_formats(self):
        for value in STRANGE + (nested(8), nested(30), ("f", "x", 501)):
            if not is_term(value):
                with self.assertRaises(InvalidTerm):
                    format_term(value)
        for value in STRANGE + ("x", FORK, ("x", 1), (1, "x")):
            if not isinstance(value, Pattern):
                with self.assertRaises(InvalidPattern):
                    format_pattern(value)
        eleven = tuple((name, "a") for name in TEN + ("k",))
        wrong = (None, 0, "skip", [], {}, ("x", "y"), (("x",),), (("x", "y", "z"),), (["x", "y"],), (("X", "y"),), (("x", 0),), (("x", True),), (("y", "x"), ("x", "y")),
                 (("x", "y"), ("x", "y")), eleven, (("a", ("g", "b", "c", ("g", "d", "e", "f"))), ("b", ("g", "g", "h", ("g", "i", "j", "k")))), (("x", nested(8)),), {"x": "y"},
                 (("x", None),), (("x", Pattern(x=1)),), (None,), ((1, "x"),))
        for value in wrong:
            with self.assertRaises(InvalidTerm):
                format_action(value)
            with self.assertRaises(InvalidTerm):
                format_edge((0, value, 1))
        for value in wrong + ((0, (), 60), (60, (), 0), (-1, (), 0), (True, (), 0), (0, (), None), (0, ()), (0, (), 1, 2), [0, (), 1], (), ("0", (), 1)):
            with self.assertRaises(InvalidTerm):
                format_edge(value)
        for value in STRANGE + WRONG_PROGRAMS:
            self.assertIs(is_program(value), False)
            with self.assertRaises(InvalidProgram):
                format_program(value)

    def test_patterns_that_are_too_large(self):
        double = (("x", ("d", "x", "x")),)
        for p, limit in ((stepped(Pattern(x=1), double, 5), 60), (stepped(Pattern(x=1), double, 400), 60), (powers(x=8), 7), (powers(x=59), 7), (powers(x=60), 60),
                         (powers(x=8, y=60), 7), (powers(x=60, y=8), 60), (powers(w=7, x=8, y=60), 7), (powers(x=1, y=499), 60)):
            with self.assertRaises(TooLarge) as caught:
                format_pattern(p)
            self.assertEqual(caught.exception.limit, limit)
        self.assertEqual(format_pattern(powers(x=7, y=0)), "x = s(s(s(s(s(s(s(?1))))))); y = ?1")

    def test_defined_there(self):
        for form, parse in PAIRS:
            for one in (form, parse):
                self.assertEqual(getattr(module, one.__name__).__module__, "termpaths.text.formats")
        self.assertEqual(other_module.table_text.__module__, "termpaths.text.tables")


def nested_text(term):
    """Return the text of a term of any size."""
    if isinstance(term, tuple):
        return f"{term[0]}({', '.join(nested_text(inner) for inner in term[1:])})"
    return f"?{term}" if isinstance(term, int) else term


class TablesTest(unittest.TestCase):
    def test_points_of_two_digits(self):
        program = program_from(("x",), tuple((k, (("x", "x"),), k + 1) for k in range(59)))
        lines = table_text(program, table(program)).split("\n")
        self.assertEqual((len(lines), lines[0], lines[9], lines[10], lines[59]), (60, "  0: x = ?1", "  9: x = ?1", " 10: x = ?1", " 59: x = ?1"))
        found = table(program)
        self.assertEqual(table_text(program, {k: found[k] for k in (40, 3, 11)}), "  3: x = ?1\n 11: x = ?1\n 40: x = ?1")
        self.assertEqual(table_text(program, {}), "")
        self.assertEqual(table_text(TURN, {1: Pattern(x=1, y=("a",), z=1)}), "  1: x = ?1; y = a(); z = ?1")

    def test_errors(self):
        for value in STRANGE + WRONG_PROGRAMS:
            with self.assertRaises(InvalidProgram):
                table_text(value, None)
        for value in STRANGE + ({2: Pattern.free(*NAMES)}, {0: Pattern(x=1)}, {0: None}, {True: Pattern.free(*NAMES)}, {-1: Pattern.free(*NAMES)}, table(LOOP)):
            if value != {}:
                with self.assertRaises(InvalidTable):
                    table_text(FORK, value)
        program = make_program(("x", "y"), size=3)
        small, high, great = powers(x=0, y=7), powers(x=8, y=0), powers(x=60, y=0)
        for found, limit in (({0: small, 1: high, 2: great}, 7), ({0: small, 2: high, 1: great}, 60), ({2: high}, 7), ({2: great, 1: high}, 7)):
            with self.assertRaises(TooLarge) as caught:
                table_text(program, found)
            self.assertEqual(caught.exception.limit, limit)
        self.assertEqual(table_text(program, {0: small}), "  0: x = ?1; y = s(s(s(s(s(s(s(?1)))))))")


if __name__ == "__main__":
    unittest.main()
