"""Weakest conditions: the most general values at the entry from which equalities hold after every run."""

from termpaths.base.checks import check_equalities, fits_action
from termpaths.conditions.backward import condition_steps, failing_path, forced_shape, preceding
from termpaths.errors import InvalidRun, InvalidTerm
from termpaths.patterns.patterns import Pattern, check_pattern, pattern_of, shape_of
from termpaths.patterns.shapes import free_shape
from termpaths.patterns.solving import demanded_shape
from termpaths.programs.programs import check_point, check_program
from termpaths.programs.runs import check_run, run_end
from termpaths.tables.tables import is_closed_table


def before(pattern, action):
    """Return the most general pattern of which an action makes an instance of a pattern, or None."""
    check_pattern(pattern)
    if not fits_action(pattern.names, action):
        raise InvalidTerm("not an action over the names")
    return _pattern_or_none(pattern.names, preceding(pattern.names, shape_of(pattern), action))


def weakest(program, point, *equalities):
    """Return the weakest condition of equalities at a point, or None."""
    return weakest_of(program, point, equalities)


def weakest_of(program, point, equalities):
    """Return the weakest condition of a tuple of equalities at a point, or None."""
    return condition_table_of(program, point, equalities).get(0)


def condition_table(program, point, *equalities):
    """Return the condition table of equalities at a point."""
    return condition_table_of(program, point, equalities)


def condition_table_of(program, point, equalities):
    """Return the condition table of a tuple of equalities at a point."""
    last = {}
    for found in condition_rounds_of(program, point, equalities):
        last = found
    return last


def condition_rounds(program, point, *equalities):
    """Yield the condition tables of all rounds, to the last one that differs from the one before it."""
    yield from condition_rounds_of(program, point, equalities)


def condition_rounds_of(program, point, equalities):
    """Yield the condition tables of all rounds, to the last one that differs from the one before it."""
    goal = _goal(program, point, equalities)
    for found in condition_steps(program, point, goal):
        yield _patterns_of(program, found)


def forced(program, runs, *equalities):
    """Return the most general entry pattern from which equalities hold after each run of a tuple, or None."""
    return forced_of(program, runs, equalities)


def forced_of(program, runs, equalities):
    """Return the most general entry pattern from which a tuple of equalities hold after each run, or None."""
    check_program(program)
    if not isinstance(runs, tuple):
        raise InvalidRun("the runs are not a tuple")
    for run in runs:
        check_run(program, run)
    check_equalities(program[0], equalities)
    return _pattern_or_none(program[0], forced_shape(program, runs, equalities))


def condition_paper(program, point, *equalities):
    """Return a paper about the weakest condition of equalities at a point."""
    return condition_paper_of(program, point, equalities)


def condition_paper_of(program, point, equalities):
    """Return a paper about the weakest condition of a tuple of equalities at a point."""
    goal = _goal(program, point, equalities)
    tables = []
    patterns = {}
    for found in condition_steps(program, point, goal):
        # The patterns of each round are made, as none of them may be too great.
        patterns = _patterns_of(program, found)
        tables.append(found)
    runs = ()
    start = free_shape(len(program[0]))
    run = failing_path(program, tables, start)
    while run is not None:
        runs = (*runs, run)
        start = forced_shape(program, runs, equalities)
        run = None if start is None else failing_path(program, tables, start)
    return ("none", runs) if start is None else ("condition", patterns, runs)


def is_condition_paper(program, point, equalities, value):
    """Tell whether a value is a paper about the weakest condition of a tuple of equalities at a point."""
    _check(program, point, equalities)
    if not isinstance(value, tuple) or len(value) < 2:
        return False
    many = len(program[0])
    if len(value) == 2 and value[0] == "none":
        return _are_runs(program, point, value[1], many + 1) and forced_shape(program, value[1], equalities) is None
    if len(value) != 3 or value[0] != "condition" or not _are_runs(program, point, value[2], many):
        return False
    table = value[1]
    if not is_closed_table(program, table) or 0 not in table:
        return False
    if point in table and not all([table[point].same(e, f) for e, f in equalities]):
        return False
    return forced_shape(program, value[2], equalities) == shape_of(table[0])


def _check(program, point, equalities):
    check_program(program)
    check_point(program, point)
    check_equalities(program[0], equalities)


def _goal(program, point, equalities):
    """Return what is wanted at the point, as a shape or None, or raise the error of what is passed."""
    _check(program, point, equalities)
    names = program[0]
    return demanded_shape(Pattern.free(*names), equalities)


def _patterns_of(program, found):
    return {point: pattern_of(program[0], found[point]) for point in found}


def _pattern_or_none(names, shape):
    return None if shape is None else pattern_of(names, shape)


def _are_runs(program, point, value, many):
    """Tell whether a value is a tuple of at most so many runs to a point."""
    if not isinstance(value, tuple) or len(value) > many:
        return False
    return all([run_end(program, run) == point for run in value])
