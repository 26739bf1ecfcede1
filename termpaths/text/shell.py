"""A shell: commands that edit a store and ask about its programs, as texts."""

from termpaths.bounds.cheapest import cheapest
from termpaths.bounds.heights import greatest_height
from termpaths.conditions.conditions import weakest
from termpaths.errors import InvalidCommand
from termpaths.optimizer.optimizer import needed
from termpaths.programs.programs import check_point, reached_points
from termpaths.questions.equalities import holds
from termpaths.questions.failing import shortest_failing
from termpaths.store.store import Store
from termpaths.tables.tables import table
from termpaths.text.commands import taken_apart
from termpaths.text.formats import format_pattern, format_program, format_run, format_term


class Shell:
    """A store, empty at first, and the commands that were run without an error."""

    def __init__(self):
        self._store = Store()
        self._commands = []

    def run(self, command):
        """Run a command and return its result."""
        word, values = taken_apart(command)
        if word in QUESTIONS:
            answer = QUESTIONS[word]
            result = answer(self._store, values)
        else:
            _change(self._store, word, values)
            result = "ok"
        self._commands.append(command)
        return result

    def run_all(self, *commands):
        """Run commands in order and return the tuple of their results."""
        return self.run_list(commands)

    def run_list(self, commands):
        """Run the commands of a tuple in order and return the tuple of their results."""
        if not isinstance(commands, tuple):
            raise InvalidCommand("the commands are not a tuple")
        results = []
        for command in commands:
            results.append(self.run(command))
        return tuple(results)

    def log(self):
        """Return the commands that were run without an error."""
        return tuple(self._commands)

    @property
    def store(self):
        """The store itself."""
        return self._store

    def __len__(self):
        return len(self._commands)


def _change(store, word, values):
    if word == "undo":
        store.undo(many=values[0])
    elif word == "redo":
        store.redo(many=values[0])
    elif word == "equal":
        name, point, (e, f) = values
        store.apply(("assert", ("equal", name, point, e, f)))
    elif word == "height":
        store.apply(("assert", ("height", *values)))
    else:
        store.apply((word, *values))


def _show(store, values):
    return format_program(store[values[0]]).replace("\n", " / ")


def _names(store, _):
    return _listed(list(store.programs))


def _status(store, _):
    return _listed([store.status(index)[0] for index in range(len(store.assertions))])


def _holds(store, values):
    name, point, (e, f) = values
    return "yes" if holds(store[name], point, e, f, entry=store.entry(name)) else "no"


def _failing(store, values):
    name, point, (e, f) = values
    run = shortest_failing(store[name], point, e, f, entry=store.entry(name))
    return "none" if run is None else format_run(run)


def _weakest(store, values):
    name, point, equality = values
    condition = weakest(store[name], point, equality)
    return "none" if condition is None else format_pattern(condition)


def _state(store, values):
    name, point = values
    pattern = _pattern_at(store, name, point)
    return "empty" if pattern is None else format_pattern(pattern)


def _greatest(store, values):
    name, point, variable = values
    program = store[name]
    height = greatest_height(program, point, variable, entry=store.entry(name))
    if height is None:
        return "grows" if point in reached_points(program) else "empty"
    return str(height)


def _cheapest(store, values):
    name, point, term = values
    pattern = _pattern_at(store, name, point)
    return "empty" if pattern is None else format_term(cheapest(pattern, term))


def _needed(store, values):
    name, outputs = values
    return _listed([f"{point}.{variable}" for point, variable in needed(store[name], outputs)])


def _pattern_at(store, name, point):
    """Return the pattern of a point in the table of a program, or None if no run leads there."""
    program = store[name]
    check_point(program, point)
    return table(program, entry=store.entry(name)).get(point)


def _listed(words):
    return " ".join(words) if words else "-"


QUESTIONS = {
    "show": _show, "names": _names, "status": _status, "holds": _holds, "failing": _failing, "weakest": _weakest,
    "state": _state, "greatest": _greatest, "cheapest": _cheapest, "needed": _needed,
}
