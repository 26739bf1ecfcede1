"""Runs: paths of edges from the entry of a program, and the values behind them."""

from termpaths.base.checks import is_index
from termpaths.base.rows import integers_in
from termpaths.errors import InvalidNumber, InvalidPattern, InvalidRun
from termpaths.patterns.patterns import Pattern, check_pattern, moved
from termpaths.programs.programs import check_point, check_program
from termpaths.programs.tracing import actions_of

MAX_RUN = 200
MAX_LISTED = 12


def is_run(program, value):
    """Tell whether a value is a run of a program, of any length."""
    check_program(program)
    return run_end(program, value) is not None


def end_of(program, run):
    """Return the point to which a run leads."""
    check_program(program)
    check_run(program, run)
    return run_end(program, run)


def runs(program, *, longest):
    """Yield all runs of at most so many edges, by length and then ascending."""
    check_program(program)
    _check_longest(longest)
    layers = _layers(program, list(range(program[1])), longest)
    for length in range(longest + 1):
        yield from _paths(program, layers, length)


def runs_to(program, point, *, longest):
    """Yield all runs of at most so many edges that lead to a point, by length and then ascending."""
    check_program(program)
    check_point(program, point)
    _check_longest(longest)
    layers = _layers(program, [point], longest)
    for length in range(longest + 1):
        yield from _paths(program, layers, length)


def image(pattern, action):
    """Return the pattern that an action makes of a pattern."""
    check_pattern(pattern)
    return pattern.after(action)


def state_after(program, run, *, entry=None):
    """Return the state after a run."""
    check_program(program)
    check_run(program, run)
    state = entry_pattern(program, entry)
    for action in actions_of(program, run):
        state = moved(state, action)
    return state


def values_read(program, run):
    """Return how many values a run reads."""
    check_program(program)
    check_run(program, run)
    return sum([len(integers_in([term for _, term in action])) for action in actions_of(program, run)])


def run_end(program, value):
    """Return the point to which a run of any length leads, or None for a value that is no run."""
    return path_end(program, 0, value)


def path_end(program, point, value):
    """Return the point to which a path of any length leads from a point, or None for a value that is no path."""
    if not isinstance(value, tuple):
        return None
    edges = program[2]
    for index in value:
        if not is_index(index, len(edges)) or edges[index][0] != point:
            return None
        point = edges[index][2]
    return point


def check_run(program, run):
    """Raise InvalidRun for what is not a run of at most 200 edges."""
    if run_end(program, run) is None or len(run) > MAX_RUN:
        raise InvalidRun("not a run of the program with at most 200 edges")


def entry_pattern(program, entry):
    """Return the entry pattern that a value stands for."""
    if entry is None:
        names = program[0]
        return Pattern.free(*names)
    if not isinstance(entry, Pattern) or entry.names != program[0]:
        raise InvalidPattern("not a pattern with the names of the program")
    return entry


def _check_longest(longest):
    if not is_index(longest, MAX_LISTED + 1):
        raise InvalidNumber(longest)


def _layers(program, goals, longest):
    """Return for each number of edges a dict of the points from which a path of so many edges leads to a goal."""
    layers = [{point: True for point in goals}]
    for left in range(longest):
        layers.append({first: True for first, _, last in program[2] if last in layers[left]})
    return layers


def _paths(program, layers, length):
    """Yield the runs with exactly so many edges that lead to a goal, ascending."""
    edges = program[2]
    stack = [((), 0)]
    while stack:
        run, point = stack.pop()
        left = length - len(run)
        if point not in layers[left]:
            continue
        if left == 0:
            yield run
            continue
        for index in reversed(range(len(edges))):
            if edges[index][0] == point:
                stack.append(((*run, index), edges[index][2]))
