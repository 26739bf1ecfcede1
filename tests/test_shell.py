"""[18.1], [19.1], stage 19: a shell."""

import unittest

from tests.hand import FORK, LOOP, NAMES, random_program
from tests.reference import STRANGE, letters, powers, rng, tall
from tests.storing import Plain
from tests.test_pairs import many_pairs
from termpaths.bounds.cheapest import cheapest
from termpaths.bounds.heights import greatest_height
from termpaths.conditions.conditions import weakest
from termpaths.errors import (
    InvalidCommand, InvalidNumber, InvalidOperation, InvalidPattern, InvalidProgram, InvalidRun, InvalidTerm, NothingToUndo,
    ParseError, TermError, TooLarge, UnknownName,
)
from termpaths.optimizer.optimizer import needed, optimized
from termpaths.patterns.patterns import Pattern
from termpaths.programs.programs import make_program, program_from, reached_points
from termpaths.questions.equalities import holds
from termpaths.questions.failing import shortest_failing
from termpaths.store.store import Store
from termpaths.tables.tables import table
from termpaths.text import shell as module
from termpaths.text.formats import format_action, format_pattern, format_program, format_run, format_term
from termpaths.text.shell import Shell

FORK_TEXT = "names x y z / points 2 / 0 -> 1: x := f(z); y := z / 0 -> 1: x := f(y)"
LOOP_TEXT = "names x y / points 2 / 0 -> 1: x := a(); y := f(a()) / 1 -> 1: x := f(x); y := f(y)"
# For each command word a command that can be run behind SETUP, and the kinds of its parts.
SETUP = (f"put fork {FORK_TEXT}", f"put loop {LOOP_TEXT}", "equal fork 1 x = f(y)", "undo 1", "redo 1")
COMMANDS = {
    f"put more {LOOP_TEXT}": "nr", "enter fork x = ?1; y = ?2; z = ?2": "nr", "remove loop": "n", "rename fork way": "nn", "edge fork 0 -> 1: skip": "nr",
    "cut loop 1": "np", "optimize fork new 1.x 1.y": "nno", "equal loop 1 y = f(x)": "npr", "height fork 1 x 1": "npnp", "drop 0": "p", "undo 1": "p", "redo 0": "p",
    "show fork": "n", "names": "", "status": "", "holds fork 1 x = f(y)": "npr", "failing fork 1 x = y": "npr", "weakest fork 1 x = f(z)": "npr",
    "state fork 1": "np", "greatest fork 1 x": "npn", "cheapest fork 1 g(f(x))": "npr", "needed fork 1.x 0.y": "no",
}
WRONG_PARTS = {
    "n": ("", "X", "ninechars", "a1", "1", "x\n", "\u00e9", "f(x)"), "p": ("", "x", "-1", "01", "00", "10000", "1\n", "+1", "1.0", "\u0661", "?1"),
    "o": ("", "1", "1.", ".x", "1.X", "x.1", "01.x", "1.x.y", "1. x", "10000.x", "1.ninechars", "1,x", "1.x "), "r": ("", " ", "?", "X", "x =", "= x", "x\n"),
}


def filled(*commands):
    shell = Shell()
    shell.run_all(*SETUP, *commands)
    return shell


def told(shell):
    store = shell.store
    return store.programs, store.assertions, store.log(), {name: store.entry(name) for name in store.programs}, len(shell), shell.log()


class ShellTest(unittest.TestCase):
    def test_written(self):
        shell = Shell()
        self.assertEqual(
            shell.run_all("put fork names x y z / points 2 / 0 -> 1: x := f(z); y := z / 0 -> 1: x := f(y)", "holds fork 1 x = f(y)",
                          "weakest fork 1 x = f(z)", "equal fork 1 x = f(y)", "status", "greatest fork 1 x"),
            ("ok", "yes", "x = ?1; y = ?2; z = ?2", "ok", "kept", "1"))
        self.assertEqual(
            shell.run_all("edge fork 0 -> 1: skip", "status", "failing fork 1 x = f(y)", "cheapest fork 1 g(f(x))", "undo 1", "state fork 1"),
            ("ok", "broken", "2", "g(f(x))", "ok", "x = f(?1); y = ?1; z = ?2"))

    def test_edits(self):
        shell = filled()
        for command, edits in (
            (f"put more {LOOP_TEXT}", (("put", "more", LOOP),)), ("enter fork x = ?1; y = ?2; z = ?2", (("enter", "fork", Pattern(x=1, y=2, z=2)),)),
            ("remove more", (("remove", "more"),)), ("rename loop more", (("rename", "loop", "more"),)), ("rename more loop", (("rename", "more", "loop"),)),
            ("edge loop 1 -> 0: x := ?1; y := f(?1, x)", (("edge", "loop", (1, (("x", 1), ("y", ("f", 1, "x"))), 0)),)), ("cut loop 2", (("cut", "loop", 2),)),
            ("optimize fork new 1.x 0.y", (("optimize", "fork", "new", ((1, "x"), (0, "y"))),)), ("optimize fork newer 1.x", (("optimize", "fork", "newer", ((1, "x"),)),)),
            ("equal loop 1 y = f(x)", (("assert", ("equal", "loop", 1, "y", ("f", "x"))),)), ("height fork 1 x 60", (("assert", ("height", "fork", 1, "x", 60)),)),
            ("drop 0", (("drop", 0),)),
        ):
            before = len(shell.store.log())
            self.assertEqual(shell.run(command), "ok")
            self.assertEqual(shell.store.log()[before:], (edits,))
            self.assertEqual(shell.log()[-1], command)
        self.assertEqual(shell.store["new"], optimized(FORK, ((1, "x"), (0, "y")), entry=Pattern(x=1, y=2, z=2)))
        self.assertEqual(shell.run_all("undo 3", "names", "undo 0", "redo 2", "redo 0", "redo 1"), ("ok", "fork loop new newer", "ok", "ok", "ok", "ok"))
        self.assertEqual(shell.store.assertions, (("equal", "loop", 1, "y", ("f", "x")), ("height", "fork", 1, "x", 60)))

    def test_questions(self):
        shell = filled()
        for command, result in (
            ("names", "fork loop"), ("status", "kept"), ("show fork", FORK_TEXT), ("show loop", LOOP_TEXT), ("holds loop 1 x = a()", "no"), ("holds loop 1 y = f(x)", "yes"),
            ("failing loop 1 x = a()", "0 1"), ("failing loop 1 y = f(x)", "none"), ("failing fork 0 x = y", "-"), ("weakest loop 1 x = y", "none"), ("weakest fork 1 x = f(z)", "x = ?1; y = ?2; z = ?2"),
            ("state loop 1", "x = ?1; y = f(?1)"), ("state loop 0", "x = ?1; y = ?2"), ("greatest loop 1 x", "grows"), ("greatest loop 0 x", "0"), ("greatest fork 1 x", "1"),
            ("cheapest fork 1 g(f(y), f(z))", "g(x, f(z))"), ("cheapest loop 1 f(x)", "y"), ("cheapest loop 1 a()", "a()"), ("needed fork 1.x", "0.y 0.z 1.x"), ("needed loop 1.x 1.x", "1.x"),
        ):
            self.assertEqual(shell.run(command), result, command)
        self.assertEqual(Shell().run_all("names", "status"), ("-", "-"))

    def test_entries(self):
        shell = filled("enter fork x = f(?1); y = ?2; z = ?2")
        self.assertEqual(shell.run_all("holds fork 1 x = f(z)", "failing fork 1 x = f(z)", "state fork 0", "state fork 1", "greatest fork 0 x", "cheapest fork 0 y", "cheapest fork 1 f(z)"),
                         ("yes", "none", "x = f(?1); y = ?2; z = ?2", "x = f(?1); y = ?1; z = ?1", "1", "y", "x"))
        # Both of these do not use the entry in the store.
        self.assertEqual(shell.run_all("weakest fork 1 x = f(z)", "weakest fork 0 x = f(z)", "needed fork 1.x"), ("x = ?1; y = ?2; z = ?2", "x = f(?1); y = ?2; z = ?1", "0.y 0.z 1.x"))
        shell.run("enter fork x = ?1; y = ?1; z = ?1")
        self.assertEqual(shell.run_all("cheapest fork 0 g(z, y)", "holds fork 0 x = z", "failing fork 1 x = y"), ("g(x, x)", "yes", "0"))

    def test_points_that_no_run_reaches(self):
        shell = Shell()
        shell.run("put far names x y / points 3 / 1 -> 2: x := f(y)")
        self.assertEqual(
            shell.run_all("state far 1", "greatest far 2 x", "cheapest far 1 x", "cheapest far 2 w", "cheapest far 1 f(?1, w)", "holds far 2 x = a()", "failing far 1 x = y", "weakest far 2 x = y",
                          "needed far 2.x"),
            ("empty", "empty", "empty", "empty", "empty", "yes", "none", "x = ?1; y = ?2", "1.y 2.x"))
        self.assertEqual(shell.run_all("height far 2 x 0", "equal far 1 x = y", "status"), ("ok", "ok", "kept kept"))
        for command in ("state far 3", "greatest far 3 x", "cheapest far 3 x", "holds far 3 x = y", "failing far 3 x = y", "weakest far 3 x = y", "cheapest far 9999 w"):
            with self.assertRaises(InvalidNumber) as caught:
                shell.run(command)
            self.assertEqual(caught.exception.value, int(command.split()[2]))
        for command in ("cheapest far 1 F", "cheapest far 1 f(", "cheapest far 1 ?0"):
            with self.assertRaises(ParseError):
                shell.run(command)

    def test_status(self):
        shell = filled("equal loop 1 x = a()", "height loop 1 y 3", "height fork 1 x 1")
        self.assertEqual(shell.run("status"), "kept broken broken kept")
        shell.store.apply(("assert", ("shape", "fork", 1, Pattern(x=("f", 1)))), ("assert", ("agree", "fork", "fork", (0, 0), ())))
        self.assertEqual(shell.run("status"), "kept broken broken kept kept broken")
        first, second, labels = many_pairs(61, 60)
        shell.store.apply(("put", "a", first), ("put", "b", second), ("assert", ("agree", "a", "b", labels, ())))
        with self.assertRaises(TooLarge):
            shell.run("status")
        self.assertEqual(shell.log()[-1], "status")
        self.assertEqual(len(shell), 10)

    def test_log(self):
        shell = Shell()
        self.assertEqual((len(shell), shell.log()), (0, ()))
        self.assertEqual(shell.store, Store())
        self.assertIs(shell.store, shell.store)
        for command in SETUP:
            shell.run(command)
        self.assertEqual((len(shell), shell.log()), (5, SETUP))
        for command in ("show none", "names x", "undo 9", "put x x", "", None):
            with self.assertRaises((TermError, UnknownName, NothingToUndo)):
                shell.run(command)
        self.assertEqual((len(shell), shell.log()), (5, SETUP))
        with self.assertRaises(TypeError):
            iter(shell)
        with self.assertRaises(AttributeError):
            shell.store = Store()

    def test_lists(self):
        self.assertEqual(Shell().run_all(), ())
        self.assertEqual(Shell().run_list(()), ())
        shell = Shell()
        self.assertEqual(shell.run_list(SETUP), ("ok",) * 5)
        for value in (None, [], ["names"], {}, "names", 0, True, {"names": 1}):
            with self.assertRaises(InvalidCommand):
                shell.run_list(value)
        # Those before an error stay in effect.
        for call in (lambda *commands: shell.run_all(*commands), lambda *commands: shell.run_list(commands)):
            before = len(shell)
            with self.assertRaises(UnknownName):
                call("names", f"put more {LOOP_TEXT}", "show none", "remove more")
            self.assertEqual((len(shell), shell.log()[-2:]), (before + 2, ("names", f"put more {LOOP_TEXT}")))
            self.assertIn("more", shell.store)
            with self.assertRaises(InvalidCommand):
                call(None, "remove more")
            self.assertIn("more", shell.store)
            shell.run("undo 1")

    def test_defined_there(self):
        self.assertEqual(module.Shell.__module__, "termpaths.text.shell")
        for name in ("run", "run_all", "run_list", "__len__", "log", "store"):
            self.assertIn(name, vars(Shell))


class WordsTest(unittest.TestCase):
    def refuse(self, shell, error, command):
        before = told(shell)
        with self.assertRaises(error):
            shell.run(command)
        self.assertEqual(told(shell), before, command)

    def test_all_words(self):
        for command in COMMANDS:
            filled().run(command)

    def test_no_commands(self):
        shell = filled()
        for value in STRANGE + ("put\n", "Names", "names\n", " names", "name", "namess", "\tnames", "ok", "?", "names/", b"names", "put\tfork", "puts fork x", "status,"):
            self.refuse(shell, InvalidCommand, value)

    def test_fewer_and_more_words(self):
        shell = filled()
        for command, kinds in COMMANDS.items():
            words = command.split(" ")
            least = len(kinds) + 1
            for many in range(1, least):
                self.refuse(shell, InvalidCommand, " ".join(words[:many]))
            if kinds[-1:] not in ("r", "o"):
                self.refuse(shell, InvalidCommand, command + " ")
                self.refuse(shell, InvalidCommand, command + " x")
                self.refuse(shell, InvalidCommand, command.replace(" ", "  ", 1) if kinds else command + " names")
            else:
                for more in (" ", " X", " X x"):
                    self.refuse(shell, ParseError, command + more)

    def test_parts(self):
        shell = filled()
        for command, kinds in COMMANDS.items():
            words = command.split(" ")
            for k, kind in enumerate(kinds):
                for part in WRONG_PARTS[kind]:
                    tail = words[k + 2:] if kind in "np" else []
                    if tail or " " not in part:
                        self.refuse(shell, ParseError, " ".join([*words[:k + 1], part, *tail]))
        # What is wrong in several parts is as wrong; names that are not there come behind.
        for command in ("holds none x x = y", "holds none 1 x == y", "show X", "cut none x", "rename none X", "put X X", "greatest none 1 X", "needed none 1.X", "optimize none new 1", "height X x X x"):
            self.refuse(shell, ParseError, command)

    def test_rests(self):
        shell = filled()
        for rest in ("x = y = z", "x =y", "x= y", "x  = y", "x =  y", " x = y", "x = y ", "x", "x = ", " = y", "x := y", "=", "x = y\n"):
            for word in ("holds", "failing", "weakest", "equal"):
                self.refuse(shell, ParseError, f"{word} fork 1 {rest}")
        for rest in ("f(x,y)", "f(x, y) ", "f(x, ", "x = y", "f x"):
            self.refuse(shell, ParseError, f"cheapest fork 1 {rest}")
        for rest in (LOOP_TEXT.replace(" / ", "\n"), LOOP_TEXT.replace(" / ", "\n", 1), LOOP_TEXT + "\n", LOOP_TEXT + " / ", " / " + LOOP_TEXT, LOOP_TEXT.replace(" / ", "/"), LOOP_TEXT.replace(" / ", " /  "),
                     LOOP_TEXT.replace(" / ", " / / "), "/", "names x / points 61", "names x"):
            self.refuse(shell, ParseError, f"put loop {rest}")
        for rest in ("x = ?2; y = ?1", "x = ?1;y = ?2", "x = ?1; y = ?2; ", "x = y; y = ?1"):
            self.refuse(shell, ParseError, f"enter loop {rest}")
        for rest in ("0 -> 1", "0 -> 60: skip", "0 -> 1: x := y / 0 -> 1: skip"):
            self.refuse(shell, ParseError, f"edge loop {rest}")

    def test_errors_of_the_store(self):
        shell = filled()
        for error, commands in (
            (UnknownName, ("enter none x = ?1", "remove none", "rename none fork", "edge none 0 -> 1: skip", "cut none 9", "optimize none fork 9.x", "show none", "holds none 9 w = w", "failing none 1 x = x",
                           "weakest none 1 x = y", "state none 1", "greatest none 1 x", "cheapest none 1 x", "needed none 9.w", "greatest fork 1 w")),
            (InvalidPattern, ("enter fork x = ?1", "enter loop x = ?1; y = ?2; z = ?3")), (InvalidProgram, ("edge fork 0 -> 2: skip", "edge loop 0 -> 1: z := x")),
            (InvalidNumber, ("cut loop 2", "drop 1", "drop 9999", "holds fork 2 w = w", "state fork 2", "greatest fork 2 w", "cheapest fork 2 w")),
            (InvalidOperation, ("rename fork loop", "rename loop loop", "optimize fork loop 9.w", "optimize fork new 2.x", "optimize fork new 1.w", "equal none 1 x = y", "equal fork 2 x = y", "equal fork 1 x = w",
                                "equal fork 1 x = ?1", "height fork 1 w 1", "height fork 1 x 61", "remove fork", "put fork names x / points 2", "needed fork 1.w", "needed fork 2.x")),
            (InvalidTerm, ("holds fork 1 x = w", "holds fork 1 ?1 = x", "failing fork 1 w = x", "weakest fork 1 x = f(?2)", "cheapest fork 1 w", "cheapest fork 1 f(?1)")),
            (NothingToUndo, ("undo 4", "redo 1", "undo 9999")),
        ):
            for command in commands:
                self.refuse(shell, error, command)
        shell.run_all(*[f"put {letters(k)}x names x / points 1" for k in range(6)])
        self.refuse(shell, TooLarge, "put more names x / points 1")
        self.refuse(shell, TooLarge, "optimize fork more 1.x")
        shell.run_all(*["equal fork 1 x = x"] * 11)
        self.refuse(shell, TooLarge, "equal fork 1 x = x")
        self.refuse(shell, InvalidOperation, "equal fork 1 x = w")
        self.refuse(shell, TooLarge, "height fork 1 x 1")

    def test_values_that_are_too_large(self):
        shell = Shell()
        great = program_from(("x",), tuple((k, (("x", tall(7)),), k + 1) for k in range(59)))
        shell.run("put great " + format_program(great).replace("\n", " / "))
        with self.assertRaises(TooLarge) as caught:
            shell.run("state great 2")
        self.assertEqual(caught.exception.limit, 7)
        with self.assertRaises(TooLarge) as caught:
            shell.run("state great 9")
        self.assertEqual(caught.exception.limit, 60)
        self.assertEqual(shell.run_all("state great 1", "greatest great 59 x", "cheapest great 59 x", "holds great 59 x = x"), ("x = s(s(s(s(s(s(s(?1)))))))", str(59 * 7), "x", "yes"))
        shell.store.apply(("enter", "great", powers(x=87)))
        # The errors of the table come ahead of those of the term and of the text.
        for command in ("state great 2", "cheapest great 2 w", "holds great 2 x = x", "failing great 2 x = x"):
            with self.assertRaises(TooLarge) as caught:
                shell.run(command)
            self.assertEqual(caught.exception.limit, 500)
        for command in ("cheapest great 60 w", "state great 60"):
            with self.assertRaises(InvalidNumber):
                shell.run(command)
        for command in ("holds great 2 x = w",):
            with self.assertRaises(InvalidTerm):
                shell.run(command)
        # A weakest condition whose text would be too great.
        wanted = make_program(("x", "y"), (0, (("x", tall(7)),), 1), (1, (("x", ("s", "x")),), 2))
        shell.run("put wanted " + format_program(wanted).replace("\n", " / "))
        self.assertEqual(shell.run("weakest wanted 1 y = s(s(s(s(s(s(s(z)))))))".replace("z", "y")), "none")
        with self.assertRaises(TooLarge) as caught:
            shell.run("weakest wanted 2 x = y")
        self.assertEqual(caught.exception.limit, 7)

    def test_long_failing_runs(self):
        # Two names turn round in circles of other lengths; x and z are unlike only behind many edges.
        names = tuple("abcdefghij")
        turn = {name: name for name in names}
        for circle in ("abcdefg", "hij"):
            for k, name in enumerate(circle):
                turn[name] = circle[k - 1]
        action = tuple((name, turn[name]) for name in names)
        program = program_from(names, tuple((k, action if k == 0 else (), (k + 1) % 20) for k in range(20)))
        shell = Shell()
        shell.store.apply(("put", "turn", program))
        # After 20 * k edges the value of g is what stood k places before; only that of a is another one.
        shell.store.apply(("enter", "turn", Pattern(**{name: 2 if name == "a" else 1 for name in names})))
        text = shell.run("failing turn 0 g = h")
        self.assertEqual(len(text.split()), 120)
        shell.store.apply(("put", "turn", program_from(names, tuple((k, action if k == 0 else (), (k + 1) % 40) for k in range(40)))))
        shell.store.apply(("enter", "turn", Pattern(**{name: 2 if name == "a" else 1 for name in names})))
        self.assertEqual(len(shortest_failing(shell.store["turn"], 0, "g", "h", entry=shell.store.entry("turn"))), 240)
        with self.assertRaises(InvalidRun):
            shell.run("failing turn 0 g = h")

    def test_against_functions(self):
        for seed in range(60):
            one = rng(seed)
            program = random_program(seed, points=3, edges=4)
            entry = Pattern(x=one.choice((1, ("f", 1))), y=one.choice((1, 2)), z=one.choice((1, 3, ("a",))))
            shell = Shell()
            shell.run_all("put p " + format_program(program).replace("\n", " / "), "enter p " + format_pattern(entry))
            self.assertEqual(shell.run("show p").replace(" / ", "\n"), format_program(program))
            found = table(program, entry=entry)
            for point in range(3):
                for e, f in (("x", "y"), ("y", ("f", "x")), (("g", "x", "z"), ("g", "y", "z"))):
                    both = f"p {point} {format_term(e)} = {format_term(f)}"
                    self.assertEqual(shell.run("holds " + both), "yes" if holds(program, point, e, f, entry=entry) else "no")
                    run = shortest_failing(program, point, e, f, entry=entry)
                    self.assertEqual(shell.run("failing " + both), "none" if run is None else format_run(run))
                    condition = weakest(program, point, (e, f))
                    self.assertEqual(shell.run("weakest " + both), "none" if condition is None else format_pattern(condition))
                    self.assertEqual(shell.run(f"cheapest p {point} {format_term(f)}"), format_term(cheapest(found[point], f)) if point in found else "empty")
                self.assertEqual(shell.run(f"state p {point}"), format_pattern(found[point]) if point in found else "empty")
                for name in NAMES:
                    height = greatest_height(program, point, name, entry=entry)
                    expected = str(height) if height is not None else "grows" if point in reached_points(program) else "empty"
                    self.assertEqual(shell.run(f"greatest p {point} {name}"), expected)
                    self.assertEqual(shell.run(f"needed p {point}.{name} 0.x"), " ".join(f"{u}.{z}" for u, z in needed(program, ((point, name), (0, "x")))))
            self.assertEqual(format_action(shell.store["p"][2][0][1]), format_action(program[2][0][1]))
            self.assertEqual(Plain().programs, {})
            self.assertEqual(shell.store["p"], program)
            self.assertNotEqual(program, LOOP)


if __name__ == "__main__":
    unittest.main()
