"""An optimizer: terms become cheapest ones, and assignments that serve no output are left out."""

from termpaths.base.checks import is_index
from termpaths.base.rows import evaluated, held_by, integers_in, read_term, taken_from, with_holes
from termpaths.base.terms import postfix
from termpaths.bounds.growth import sources_of
from termpaths.errors import InvalidOperation, UnknownName
from termpaths.programs.programs import check_point, check_program
from termpaths.programs.runs import entry_pattern, path_end
from termpaths.tables.tables import table


def replaced(program, *, entry=None):
    """Return the program in which each term is a cheapest one with its value."""
    check_program(program)
    start = entry_pattern(program, entry)
    found = table(program, entry=start)
    edges = []
    for first, action, last in program[2]:
        edges.append((first, _replaced_action(found[first], action) if first in found else action, last))
    return (program[0], program[1], tuple(edges))


def removed(program, outputs):
    """Return the program without the assignments that serve no output."""
    _check(program, outputs)
    return _without_idle(program, outputs)


def optimized(program, outputs, *, entry=None):
    """Return the program with its terms replaced and then without what serves no output."""
    _check(program, outputs)
    return _without_idle(replaced(program, entry=entry), outputs)


def needed(program, outputs):
    """Return the pairs of a point and a name that are needed for the outputs, ascending."""
    _check(program, outputs)
    return tuple(sorted(set(_needed_ways(program, outputs))))


def need_paper(program, outputs, point, name):
    """Return a paper that shows that a name is needed at a point, or that it is not."""
    _check_asked(program, outputs, point, name)
    ways = _needed_ways(program, outputs)
    pair = (point, name)
    if pair not in ways:
        return ("idle", tuple(sorted(set(ways))))
    path = []
    names = [name]
    while ways[pair] is not None:
        edge, pair = ways[pair]
        path.append(edge)
        names.append(pair[1])
    return ("needed", tuple(path), tuple(names))


def is_need_paper(program, outputs, point, name, value):
    """Tell whether a value is a paper about whether a name is needed at a point."""
    _check_asked(program, outputs, point, name)
    if not isinstance(value, tuple):
        return False
    if len(value) == 2 and value[0] == "idle":
        return _are_enough_pairs(program, outputs, value[1]) and (point, name) not in value[1]
    if len(value) == 3 and value[0] == "needed":
        return _is_way(program, outputs, (point, name), value[1], value[2])
    return False


def program_cost(program):
    """Return the sum of the costs of all terms in the actions: the number of their operators."""
    check_program(program)
    terms = [term for _, action, _ in program[2] for _, term in action]
    return len([step for term in terms for step in postfix(term) if isinstance(step, tuple)])


def labels_of(program):
    """Return the labels of a program for itself: each edge has itself."""
    check_program(program)
    return tuple(list(range(len(program[2]))))


def are_needed_outputs(program, value):
    """Tell whether a value is a tuple of pairs of a point and a name of a program."""
    return isinstance(value, tuple) and all([_is_pair(program, pair) for pair in value])


def _is_pair(program, value):
    return isinstance(value, tuple) and len(value) == 2 and is_index(value[0], program[1]) and value[1] in program[0]


def _check(program, outputs):
    check_program(program)
    if not are_needed_outputs(program, outputs):
        raise InvalidOperation("not a tuple of pairs of a point and a name")


def _check_asked(program, outputs, point, name):
    _check(program, outputs)
    check_point(program, point)
    if name not in program[0]:
        raise UnknownName(name)


def _replaced_action(pattern, action):
    """Return what an action becomes where the values are as in a pattern."""
    terms = [term for _, term in action]
    places = pattern.places
    rows, fresh = with_holes(pattern.rows, integers_in(terms))
    rows, spots = evaluated(rows, {**places, **fresh}, terms)
    taken = list(taken_from(rows, held_by(places)))
    for integer in fresh:
        taken[fresh[integer]] = integer
    made = []
    for k in range(len(action)):
        name = action[k][0]
        if places[name] != spots[k]:
            made.append((name, read_term(taken, spots[k])))
    return tuple(made)


def _without_idle(program, outputs):
    """Return the program without what serves no output, for outputs that are known to be right."""
    ways = _needed_ways(program, outputs)
    edges = []
    for first, action, last in program[2]:
        edges.append((first, tuple([one for one in action if (last, one[0]) in ways]), last))
    return (program[0], program[1], tuple(edges))


def _needed_ways(program, outputs):
    """Return a dict from the needed pairs to an edge and the pair behind it that they go into, or to None.

    It is None for the outputs. The ways to the outputs are as short as possible.
    """
    sources = _sources_by_pair(program)
    ways = {pair: None for pair in outputs}
    todo = sorted(set(ways))
    while todo:
        fresh = []
        for pair in todo:
            for edge, source in sources.get(pair, ()):
                if source not in ways:
                    ways[source] = (edge, pair)
                    fresh.append(source)
        todo = fresh
    return ways


def _sources_by_pair(program):
    """Return a dict from pairs to lists of an edge and a pair that goes into them along this edge."""
    found = {}
    for edge, (first, action, last) in enumerate(program[2]):
        for inner, name, _ in sources_of(program[0], action):
            if (last, name) not in found:
                found[(last, name)] = []
            found[(last, name)].append((edge, (first, inner)))
    return found


def _are_enough_pairs(program, outputs, value):
    """Tell whether a value is an ascending tuple of pairs with all outputs and all that goes into its pairs."""
    if not are_needed_outputs(program, value) or list(value) != sorted(set(value)):
        return False
    pairs = {pair: True for pair in value}
    if not all([pair in pairs for pair in outputs]):
        return False
    sources = _sources_by_pair(program)
    return all([source in pairs for pair in value for _, source in sources.get(pair, ())])


def _is_way(program, outputs, pair, path, names):
    """Tell whether a name goes into others along a path, and at the end into one that is an output."""
    end = path_end(program, pair[0], path)
    if end is None or not isinstance(names, tuple) or len(names) != len(path) + 1 or names[0] != pair[1]:
        return False
    if (end, names[-1]) not in outputs:
        return False
    goes = [[(inner, name) for inner, name, _ in sources_of(program[0], action)] for _, action, _ in program[2]]
    return all([(names[k], names[k + 1]) in goes[edge] for k, edge in enumerate(path)])
