"""Statements: programs that are written as what is done one after the other, by choice, or again and again."""

from termpaths.base.checks import fits_action
from termpaths.base.terms import is_name
from termpaths.errors import InvalidProgram, TooLarge
from termpaths.patterns.patterns import are_names
from termpaths.programs.programs import MAX_EDGES, MAX_POINTS

MAX_DEPTH = 8


def statement_program(names, statement):
    """Return the program of a statement, and a dict from the names of its marks to points."""
    if not are_names(names) or not _is_statement(names, statement, MAX_DEPTH):
        raise InvalidProgram("not names, or not a statement over them")
    _, size, edges, marks = _made(statement, 0, 1)
    marked = sorted(set([str(name) for name, _ in marks]))
    if len(marked) < len(marks):
        raise InvalidProgram("a mark occurs twice")
    if size > MAX_POINTS:
        raise TooLarge(MAX_POINTS)
    if len(edges) > MAX_EDGES:
        raise TooLarge(MAX_EDGES)
    points = {name: point for name, point in marks}
    return (names, size, tuple(edges)), {name: points[name] for name in marked}


def _is_statement(names, value, depth):
    """Tell whether a value is a statement over some names that is nested at most so deep."""
    if not isinstance(value, tuple) or len(value) == 0 or depth == 0:
        return False
    word = value[0]
    if word == "do":
        return len(value) == 2 and fits_action(names, value[1])
    if word == "mark":
        return len(value) == 2 and is_name(value[1])
    if word == "seq" or (word == "choose" and len(value) > 2) or (word == "repeat" and len(value) == 2):
        return all([_is_statement(names, inner, depth - 1) for inner in value[1:]])
    return False


def _made(statement, begin, size):
    """Return what a statement makes that begins at a point, behind so many points that are made.

    This is the point at which it ends, the new number of points, the edges, and the marks with their points.
    """
    word = statement[0]
    if word == "do":
        return size, size + 1, [(begin, statement[1], size)], []
    if word == "mark":
        return begin, size, [], [(statement[1], begin)]
    if word == "repeat":
        end, total, more, told = _made(statement[1], size, size + 1)
        return size, total, [(begin, (), size), *more, (end, (), size)], told
    edges = []
    marks = []
    ends = [begin]
    for inner in statement[1:]:
        end, size, more, told = _made(inner, begin if word == "choose" else ends[-1], size)
        ends.append(end)
        edges.extend(more)
        marks.extend(told)
    if word == "seq":
        return ends[-1], size, edges, marks
    edges.extend([(end, (), size) for end in ends[1:]])
    return size, size + 1, edges, marks
