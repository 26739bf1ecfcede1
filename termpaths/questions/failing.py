"""Failing runs: runs after which two terms differ, or after which the values do not fit a shape."""

from termpaths.base.checks import is_index
from termpaths.conditions.backward import exact_conditions, shortest_failing_path
from termpaths.errors import InvalidNumber
from termpaths.patterns.patterns import moved, shape_of
from termpaths.patterns.shapes import acted, is_instance
from termpaths.programs.runs import entry_pattern
from termpaths.questions.asked import (
    check_equality, fits_shape, start_of_equality, start_of_shape, wanted_by_equality, wanted_by_shape,
)
from termpaths.tables.tables import table

MAX_LENGTH = 60


def shortest_failing(program, point, e, f, *, entry=None):
    """Return the failing run of an equality with the fewest edges, of several the smallest one, or None."""
    start = start_of_equality(program, point, e, f, entry)
    found = table(program, entry=start)
    if point not in found or found[point].same(e, f):
        return None
    return shortest_failing_path(program, point, wanted_by_equality(program, e, f), shape_of(start))


def shortest_misfit(program, point, shape, *, entry=None):
    """Return the failing run of a shape with the fewest edges, of several the smallest one, or None."""
    start = start_of_shape(program, point, shape, entry)
    found = table(program, entry=start)
    if point not in found or fits_shape(shape, found[point].rows, found[point].places):
        return None
    return shortest_failing_path(program, point, wanted_by_shape(program, shape), shape_of(start))


def failing_runs(program, point, e, f, *, length, entry=None):
    """Yield all failing runs of an equality with exactly so many edges, ascending."""
    check_equality(program, point, e, f)
    _check_length(length)
    start = entry_pattern(program, entry)
    common = {}
    for one in _exact_tables(program, start, length):
        common = one
    if point in common and not common[point].same(e, f):
        layers = exact_conditions(program, point, wanted_by_equality(program, e, f), length)
        yield from _failing_paths(program, layers, start)


def failing_lengths(program, point, e, f, *, longest, entry=None):
    """Return all numbers up to the longest that are the length of a failing run, ascending."""
    check_equality(program, point, e, f)
    _check_length(longest)
    start = entry_pattern(program, entry)
    tables = list(_exact_tables(program, start, longest))
    return tuple([k for k, one in enumerate(tables) if point in one and not one[point].same(e, f)])


def _check_length(value):
    if not is_index(value, MAX_LENGTH + 1):
        raise InvalidNumber(value)


def _exact_tables(program, start, longest):
    """Yield for 0, 1, .. edges the common patterns of all runs with exactly so many, as dicts from points."""
    found = {0: start}
    changed = {0: True}
    kept = {}
    yield found
    for _ in range(longest):
        made = _behind_one_edge(program, found, changed, kept)
        changed = {point: True for point in range(program[1]) if made.get(point) != found.get(point)}
        found = made
        kept = made
        yield found


def _behind_one_edge(program, found, changed, kept):
    """Return the common patterns of all runs with one edge more than those of the found ones.

    Only what is behind a point that has changed with the last edge is another one than it was; the rest is kept.
    """
    stale = {last: True for first, _, last in program[2] if first in changed}
    made = {point: kept[point] for point in kept if point not in stale}
    for first, action, last in program[2]:
        if last in stale and first in found:
            reached = moved(found[first], action)
            made[last] = made[last] | reached if last in made else reached
    return made


def _failing_paths(program, layers, start):
    """Yield the runs that fail, ascending; the layers tell what is wanted before the last 0, 1, .. edges."""
    names, _, edges = program
    stack = [((), shape_of(start))]
    while stack:
        run, state = stack.pop()
        here = 0
        if run:
            _, action, here = edges[run[-1]]
            state = acted(names, state, action)
        left = len(layers) - 1 - len(run)
        if here not in layers[left]:
            continue
        goal = layers[left][here]
        if goal is not None and is_instance(goal, state):
            continue
        if left == 0:
            yield run
            continue
        for index in reversed(range(len(edges))):
            if edges[index][0] == here:
                stack.append(((*run, index), state))
