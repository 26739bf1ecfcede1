"""Solving: the most general values for which some terms are equal, or why there are none."""

from termpaths.base.checks import check_equalities, is_index
from termpaths.base.rows import evaluated, same_sign
from termpaths.base.terms import postfix
from termpaths.errors import InvalidPattern
from termpaths.patterns.patterns import MAX_WEIGHT, Pattern, are_names, check_pattern, pattern_of
from termpaths.patterns.refuting import refutation
from termpaths.patterns.shapes import merged


def solved(names, *equalities):
    """Return the most general solution of equalities over some names, or None if there is no solution."""
    return solved_all(names, equalities)


def solved_all(names, equalities):
    """Return the most general solution of a tuple of equalities over some names, or None."""
    _check_names(names)
    check_equalities(names, equalities)
    return _pattern_or_none(names, demanded_shape(Pattern.free(*names), equalities))


def demanded(pattern, *equalities):
    """Return the most general instance of a pattern in which equalities hold, or None."""
    return demanded_all(pattern, equalities)


def demanded_all(pattern, equalities):
    """Return the most general instance of a pattern in which a tuple of equalities hold, or None."""
    check_pattern(pattern)
    check_equalities(pattern.names, equalities)
    return _pattern_or_none(pattern.names, demanded_shape(pattern, equalities))


def solving_paper(names, *equalities):
    """Return the most general solution of equalities, or a refutation, as a paper."""
    return solving_paper_of(names, equalities)


def solving_paper_of(names, equalities):
    """Return the most general solution of a tuple of equalities, or a refutation, as a paper."""
    solution = solved_all(names, equalities)
    if solution is not None:
        return ("solved", solution)
    lines, end = refutation(names, equalities)
    return ("refuted", lines, end)


def is_solving_paper(names, equalities, value):
    """Tell whether a value is a paper for a tuple of equalities over some names."""
    _check_names(names)
    check_equalities(names, equalities)
    if not isinstance(value, tuple):
        return False
    if len(value) == 2 and value[0] == "solved":
        shape = demanded_shape(Pattern.free(*names), equalities)
        if shape is None or len(shape[0]) > MAX_WEIGHT:
            return False
        return pattern_of(names, shape) == value[1]
    if len(value) == 3 and value[0] == "refuted":
        return _are_lines(equalities, value[1]) and _is_end(value[1], value[2])
    return False


def demanded_shape(pattern, equalities):
    """Return the rows and the positions of what is demanded, of any weight, or None."""
    places = pattern.places
    terms = [term for pair in equalities for term in pair]
    rows, spots = evaluated(pattern.rows, places, terms)
    pairs = [(spots[2 * k], spots[2 * k + 1]) for k in range(len(equalities))]
    return merged(rows, [places[name] for name in pattern.names], pairs)


def _check_names(names):
    if not are_names(names):
        raise InvalidPattern("not an ascending tuple of one to ten names")


def _pattern_or_none(names, shape):
    return None if shape is None else pattern_of(names, shape)


def _are_lines(equalities, lines):
    """Tell whether a value is a tuple of lines, each of which follows."""
    if not isinstance(lines, tuple):
        return False
    for number, line in enumerate(lines):
        if not isinstance(line, tuple) or len(line) != 3 or not isinstance(line[2], tuple) or not line[2]:
            return False
        # What follows from the equalities is of their terms, so the terms need no other check.
        if _told(equalities, lines, number, line[2]) != line[:2]:
            return False
    return True


def _told(equalities, lines, many, reason):
    """Return the pair of terms that a reason gives behind so many of the lines, or None if it is none."""
    word = reason[0]
    if len(reason) == 2 and word == "given" and is_index(reason[1], len(equalities)):
        return equalities[reason[1]]
    if len(reason) < 2 or not is_index(reason[1], many):
        return None
    e, f, _ = lines[reason[1]]
    if len(reason) == 2 and word == "turn":
        return (f, e)
    if len(reason) != 3:
        return None
    if word == "part" and same_sign(e, f) and is_index(reason[2], len(e) - 1):
        return (e[reason[2] + 1], f[reason[2] + 1])
    if word == "chain" and is_index(reason[2], many) and lines[reason[2]][0] == f:
        return (e, lines[reason[2]][1])
    return None


def _is_end(lines, end):
    """Tell whether a value is the end of a refutation with these lines."""
    if not isinstance(end, tuple) or len(end) != 2:
        return False
    if end[0] == "clash":
        return is_index(end[1], len(lines)) and _is_clash(lines[end[1]])
    if end[0] != "within" or not isinstance(end[1], tuple) or not end[1]:
        return False
    if not all([is_index(number, len(lines)) for number in end[1]]):
        return False
    circle = [lines[number] for number in end[1]]
    return all([_is_within(line, circle[(k + 1) % len(circle)]) for k, line in enumerate(circle)])


def _is_clash(line):
    e, f, _ = line
    return isinstance(e, tuple) and isinstance(f, tuple) and not same_sign(e, f)


def _is_within(line, following):
    """Tell whether a line is of a variable and a greater term that contains the variable of the following line."""
    if not isinstance(line[0], str) or not isinstance(line[1], tuple):
        return False
    return following[0] in postfix(line[1])
