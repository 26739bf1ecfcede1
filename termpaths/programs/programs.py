"""Programs: names, points, and edges with actions between the points."""

from termpaths.base.checks import changed_names, fits_action, is_index
from termpaths.base.terms import is_integer, is_name, put_by
from termpaths.errors import InvalidNumber, InvalidOperation, InvalidProgram
from termpaths.patterns.patterns import are_names

MAX_POINTS = 60
MAX_EDGES = 120


def is_action(names, value):
    """Tell whether a value is an action over some names."""
    if not are_names(names):
        raise InvalidProgram("not an ascending tuple of one to ten names")
    return fits_action(names, value)


def is_program(value):
    """Tell whether a value is a program."""
    if not isinstance(value, tuple) or len(value) != 3:
        return False
    names, size, edges = value
    if not are_names(names) or not is_integer(size) or not 1 <= size <= MAX_POINTS:
        return False
    if not isinstance(edges, tuple) or len(edges) > MAX_EDGES:
        return False
    return all([_is_edge(names, size, edge) for edge in edges])


def make_program(names, *edges, size=None):
    """Return the program with these names and edges."""
    return program_from(names, edges, size=size)


def program_from(names, edges, *, size=None):
    """Return the program with these names and a tuple of edges."""
    if not isinstance(names, tuple) or not all([is_name(name) for name in names]):
        raise InvalidProgram("the names are not a tuple of names")
    if not isinstance(edges, tuple):
        raise InvalidProgram("the edges are not a tuple")
    total = _least_size(edges) if size is None else size
    program = (tuple(sorted(set(names))), total, edges)
    check_program(program)
    return program


def reached_points(program):
    """Return the points to which runs lead, ascending."""
    check_program(program)
    return reached_in(program)


def edges_from(program, point):
    """Return the indices of the edges that begin at a point, ascending."""
    check_program(program)
    check_point(program, point)
    return tuple([index for index, edge in enumerate(program[2]) if edge[0] == point])


def edges_to(program, point):
    """Return the indices of the edges that end at a point, ascending."""
    check_program(program)
    check_point(program, point)
    return tuple([index for index, edge in enumerate(program[2]) if edge[2] == point])


def renamed_program(program, **names):
    """Return the program with new names, which are passed for old ones."""
    return renamed_program_by(program, names)


def renamed_program_by(program, names):
    """Return the program with new names, by a dict from old ones to new ones."""
    check_program(program)
    changed = changed_names(program[0], names)
    edges = [(first, _renamed_action(action, changed), last) for first, action, last in program[2]]
    ordered = sorted(set([changed[name] for name in program[0]]))
    return (tuple(ordered), program[1], tuple(edges))


def renumbered(program, points):
    """Return the program with other numbers for its points: point k becomes points[k]."""
    check_program(program)
    names, size, edges = program
    if not isinstance(points, tuple) or len(points) != size or not all([is_index(point, size) for point in points]):
        raise InvalidOperation("not a tuple with a point for each point")
    if len(set(points)) < size or points[0] != 0:
        raise InvalidOperation("a point occurs twice, or the entry does not stay")
    return (names, size, tuple([(points[first], action, points[last]) for first, action, last in edges]))


def with_edge(program, edge):
    """Return the program with one edge more behind the others."""
    check_program(program)
    made = (program[0], program[1], (*program[2], edge))
    check_program(made)
    return made


def without_edge(program, index):
    """Return the program without the edge with this index."""
    check_program(program)
    names, size, edges = program
    if not is_index(index, len(edges)):
        raise InvalidNumber(index)
    return (names, size, edges[:index] + edges[index + 1:])


def check_program(program):
    """Raise InvalidProgram for what is not a program."""
    if not is_program(program):
        raise InvalidProgram("not a program")


def check_point(program, point):
    """Raise InvalidNumber for what is not a point of a program."""
    if not is_index(point, program[1]):
        raise InvalidNumber(point)


def reached_in(program):
    """Return the points to which runs lead, for what is known to be a program: it is not checked again."""
    reached = {0: True}
    todo = [0]
    while todo:
        point = todo.pop()
        for first, _, last in program[2]:
            if first == point and last not in reached:
                reached[last] = True
                todo.append(last)
    return tuple(sorted(set(reached)))


def _is_edge(names, size, value):
    if not isinstance(value, tuple) or len(value) != 3:
        return False
    return is_index(value[0], size) and fits_action(names, value[1]) and is_index(value[2], size)


def _least_size(edges):
    """Return one more than the greatest point of the edges; what is no point is left for the check."""
    points = [edge[k] for edge in edges if isinstance(edge, tuple) and len(edge) == 3 for k in (0, 2)]
    return max([int(point) for point in points if is_integer(point)], default=0) + 1


def _renamed_action(action, changed):
    terms = {changed[name]: put_by(term, changed) for name, term in action}
    return tuple([(name, terms[name]) for name in sorted(set(terms))])
