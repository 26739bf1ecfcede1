"""Equalities and shapes: what holds at a point after all runs, with papers that show it."""

from termpaths.base.checks import is_index
from termpaths.base.rows import evaluated, held_by
from termpaths.base.terms import is_name, sorted_terms
from termpaths.conditions.backward import shortest_failing_path
from termpaths.errors import InvalidNumber, InvalidOperation, TooLarge
from termpaths.patterns.patterns import check_pattern, shape_of
from termpaths.programs.runs import run_end
from termpaths.programs.tracing import traced_run
from termpaths.questions.asked import (
    fits_shape, start_of_equality, start_of_shape, wanted_by_equality, wanted_by_shape,
)
from termpaths.tables.tables import is_closed, table

MAX_LISTED_TERMS = 200
MAX_LISTED_HEIGHT = 3
MAX_ARITY = 3


def holds(program, point, e, f, *, entry=None):
    """Tell whether two terms are equal at a point after every run."""
    start = start_of_equality(program, point, e, f, entry)
    return _is_equal_in(table(program, entry=start), point, e, f)


def equality_paper(program, point, e, f, *, entry=None):
    """Return a table that shows that two terms are equal at a point, or the shortest run after which they differ."""
    start = start_of_equality(program, point, e, f, entry)
    found = table(program, entry=start)
    if _is_equal_in(found, point, e, f):
        return ("table", found)
    return ("run", shortest_failing_path(program, point, wanted_by_equality(program, e, f), shape_of(start)))


def is_equality_paper(program, point, e, f, value, *, entry=None):
    """Tell whether a value is a paper about two terms at a point."""
    start = start_of_equality(program, point, e, f, entry)
    if not isinstance(value, tuple) or len(value) != 2:
        return False
    if value[0] == "table":
        return is_closed(program, value[1], entry=start) and _is_equal_in(value[1], point, e, f)
    if value[0] != "run" or run_end(program, value[1]) != point:
        return False
    nodes, places, _ = traced_run(program, value[1], start.rows, start.places)
    _, spots = evaluated(nodes, places, (e, f))
    return spots[0] != spots[1]


def fits(program, point, shape, *, entry=None):
    """Tell whether the values of some names fit a shape at a point after every run."""
    start = start_of_shape(program, point, shape, entry)
    return _is_fitting_in(table(program, entry=start), point, shape)


def shape_paper(program, point, shape, *, entry=None):
    """Return a table that shows that a shape fits at a point, or the shortest run after which it does not."""
    start = start_of_shape(program, point, shape, entry)
    found = table(program, entry=start)
    if _is_fitting_in(found, point, shape):
        return ("table", found)
    return ("run", shortest_failing_path(program, point, wanted_by_shape(program, shape), shape_of(start)))


def is_shape_paper(program, point, shape, value, *, entry=None):
    """Tell whether a value is a paper about a shape at a point."""
    start = start_of_shape(program, point, shape, entry)
    if not isinstance(value, tuple) or len(value) != 2:
        return False
    if value[0] == "table":
        return is_closed(program, value[1], entry=start) and _is_fitting_in(value[1], point, shape)
    if value[0] != "run" or run_end(program, value[1]) != point:
        return False
    nodes, places, _ = traced_run(program, value[1], start.rows, start.places)
    return not fits_shape(shape, nodes, places)


def equal_names(pattern):
    """Return the tuples of the names of a pattern that have the same value."""
    check_pattern(pattern)
    groups = held_by(pattern.places)
    return tuple([groups[place] for place in groups])


def equalities(pattern, operators, *, height):
    """Yield the pairs of different terms up to a height that have the same value in a pattern."""
    check_pattern(pattern)
    if not _are_operators(operators):
        raise InvalidOperation("not an ascending tuple of pairs of a name and a number of terms")
    if not is_index(height, MAX_LISTED_HEIGHT + 1):
        raise InvalidNumber(height)
    terms = sorted_terms(tuple(_terms_over(pattern.names, operators, height)))
    _, spots = evaluated(pattern.rows, pattern.places, terms)
    for first in range(len(terms)):
        for second in range(first + 1, len(terms)):
            if spots[first] == spots[second]:
                yield (terms[first], terms[second])


def _is_equal_in(found, point, e, f):
    """Tell whether a table gives two terms the same value at a point, or does not have the point."""
    return point not in found or found[point].same(e, f)


def _is_fitting_in(found, point, shape):
    """Tell whether the pattern of a point in a table fits a shape, or the table does not have the point."""
    return point not in found or fits_shape(shape, found[point].rows, found[point].places)


def _are_operators(value):
    if not isinstance(value, tuple):
        return False
    for pair in value:
        if not isinstance(pair, tuple) or len(pair) != 2:
            return False
        if not is_name(pair[0]) or not is_index(pair[1], MAX_ARITY + 1):
            return False
    return list(value) == sorted(set(value))


def _terms_over(names, operators, height):
    """Return all terms of at most this height over some names and operators, or raise TooLarge(200)."""
    leaves = [*names, *[(operator,) for operator, many in operators if many == 0]]
    inner = [(operator, many) for operator, many in operators if many > 0]
    terms = leaves
    _check_many_terms(len(leaves))
    for _ in range(height):
        # The terms are counted before they are made, as there may be far too many of them.
        _check_many_terms(len(leaves) + sum([_power(len(terms), many) for _, many in inner]))
        terms = [*leaves, *[term for operator, many in inner for term in _made(operator, many, terms)]]
    return terms


def _check_many_terms(many):
    if many > MAX_LISTED_TERMS:
        raise TooLarge(MAX_LISTED_TERMS)


def _power(base, exponent):
    result = 1
    for _ in range(exponent):
        result = result * base
    return result


def _made(operator, many, terms):
    """Return the terms of an operator with so many of the terms, in all ways."""
    made = [(operator,)]
    for _ in range(many):
        made = [(*one, term) for one in made for term in terms]
    return made
