"""Pairs of programs: a program that does two programs side by side, and whether they agree."""

from termpaths.base.checks import is_index
from termpaths.base.rows import shared, with_holes
from termpaths.base.terms import is_integer, is_name, put_by
from termpaths.conditions.backward import shortest_failing_path
from termpaths.errors import InvalidOperation, TooLarge
from termpaths.pairs.following import check_pair, follows, met_pairs, pair_behind
from termpaths.patterns.patterns import MAX_NAMES, pattern_of, shape_of
from termpaths.patterns.shapes import is_instance
from termpaths.programs.programs import MAX_EDGES, MAX_POINTS
from termpaths.programs.runs import entry_pattern
from termpaths.programs.tracing import traced_run
from termpaths.questions.asked import wanted_by_equality
from termpaths.tables.tables import is_closed_table, table

LEFT = "l"
RIGHT = "r"


def paired(first, second, labels):
    """Return the program of pairs of two programs, and the pairs that are its points."""
    check_pair(first, second, labels)
    program, pairs, _ = _program_of_pairs(first, second, labels)
    return program, pairs


def paired_entry(first, second, labels, *, entry=None):
    """Return the entry pattern of the program of pairs at which both programs begin alike."""
    check_pair(first, second, labels)
    start = entry_pattern(first, entry)
    program, _, _ = _program_of_pairs(first, second, labels)
    return pattern_of(program[0], _shape_at_entry(first, second, start))


def agree(first, second, labels, outputs, *, entry=None):
    """Tell whether two programs agree at all outputs of a tuple."""
    return agreement_paper(first, second, labels, outputs, entry=entry)[0] == "agree"


def agreement_paper(first, second, labels, outputs, *, entry=None):
    """Return a table of the program of pairs, or a run of the second program, that shows whether both agree."""
    _check_outputs(first, second, labels, outputs)
    start = entry_pattern(first, entry)
    program, pairs, steps = _program_of_pairs(first, second, labels)
    begin = pattern_of(program[0], _shape_at_entry(first, second, start))
    found = table(program, entry=begin)
    index = _first_difference(found, pairs, outputs)
    if index is None:
        return ("agree", found)
    e, f = _names_of(outputs[index])
    point = pairs.index(outputs[index][:2])
    run = shortest_failing_path(program, point, wanted_by_equality(program, e, f), shape_of(begin))
    return ("differ", tuple([steps[edge] for edge in run]), index)


def is_agreement_paper(first, second, labels, outputs, value, *, entry=None):
    """Tell whether a value is a paper about whether two programs agree at all outputs of a tuple."""
    _check_outputs(first, second, labels, outputs)
    start = entry_pattern(first, entry)
    program, pairs, steps = _program_of_pairs(first, second, labels)
    # The beginning may be too great for a pattern, and still be covered by a table.
    shape = _shape_at_entry(first, second, start)
    if not isinstance(value, tuple):
        return False
    if len(value) == 2 and value[0] == "agree":
        found = value[1]
        if not is_closed_table(program, found) or 0 not in found or not is_instance(shape_of(found[0]), shape):
            return False
        return _first_difference(found, pairs, outputs) is None
    if len(value) == 3 and value[0] == "differ" and is_index(value[2], len(outputs)):
        return _is_difference(program, pairs, steps, shape, value[1], outputs[value[2]])
    return False


def are_outputs(first, second, value):
    """Tell whether a value is a tuple of outputs of two programs."""
    if not isinstance(value, tuple):
        return False
    for one in value:
        if not isinstance(one, tuple) or len(one) != 4:
            return False
        if not is_index(one[0], first[1]) or not is_index(one[1], second[1]):
            return False
        if one[2] not in first[0] or one[3] not in second[0]:
            return False
    return True


def _check_outputs(first, second, labels, outputs):
    check_pair(first, second, labels)
    if not are_outputs(first, second, outputs):
        raise InvalidOperation("not a tuple of outputs")


def _program_of_pairs(first, second, labels):
    """Return the program of pairs, its pairs, and for each of its edges that of the second program."""
    if not follows(first, second, labels):
        raise InvalidOperation("the second program does not follow the first one")
    names = sorted(set([*[name + LEFT for name in first[0]], *[name + RIGHT for name in second[0]]]))
    if not all([is_name(name) for name in names]):
        raise InvalidOperation("a name has more than eight letters")
    if len(names) > MAX_NAMES:
        raise InvalidOperation("there are more than ten names")
    pairs = met_pairs(first, second, labels)
    if len(pairs) > MAX_POINTS:
        raise TooLarge(MAX_POINTS)
    steps = [(pair, k) for pair in pairs for k, edge in enumerate(second[2]) if edge[0] == pair[1]]
    if len(steps) > MAX_EDGES:
        raise TooLarge(MAX_EDGES)
    points = {pair: k for k, pair in enumerate(pairs)}
    edges = []
    for pair, k in steps:
        behind = pair_behind(first, second, labels, pair, k)
        edges.append((points[pair], _both_actions(first, second, labels, k), points[behind]))
    return (tuple(names), len(pairs), tuple(edges)), pairs, [k for _, k in steps]


def _both_actions(first, second, labels, edge):
    """Return the action that does those of an edge of the second program and of its label at once."""
    terms = _renamed_terms(second[0], second[2][edge][1], RIGHT)
    if labels[edge] is not None:
        terms = {**terms, **_renamed_terms(first[0], first[2][labels[edge]][1], LEFT)}
    return tuple([(name, terms[name]) for name in sorted(set(terms))])


def _renamed_terms(names, action, side):
    """Return a dict from the names that an action sets to their terms, all names with a letter behind them."""
    changed = {name: name + side for name in names}
    return {changed[name]: put_by(term, changed) for name, term in action}


def _shape_at_entry(first, second, start):
    """Return the shape at which both programs begin alike, for an entry pattern of the first one."""
    places = start.places
    rows, fresh = with_holes(start.rows, [name for name in second[0] if name not in places])
    spots = {name + LEFT: places[name] for name in first[0]}
    for name in second[0]:
        spots[name + RIGHT] = places[name] if name in places else fresh[name]
    return shared(rows, [spots[name] for name in sorted(set(spots))])


def _names_of(output):
    """Return both names of an output, as they are called in the program of pairs."""
    return output[2] + LEFT, output[3] + RIGHT


def _first_difference(found, pairs, outputs):
    """Return the index of the first output at which a table of the program of pairs lets both differ, or None."""
    places = {pair: found[k].places for k, pair in enumerate(pairs)}
    for index, output in enumerate(outputs):
        if output[:2] in places:
            here = places[output[:2]]
            e, f = _names_of(output)
            if here[e] != here[f]:
                return index
    return None


def _is_difference(program, pairs, steps, shape, run, output):
    """Tell whether a value is a run of the second program to an output, behind which both names differ."""
    if not isinstance(run, tuple):
        return False
    edges = {(program[2][k][0], step): k for k, step in enumerate(steps)}
    here = 0
    along = []
    for step in run:
        # Only integers are looked up: other values cannot always be, and True is none.
        if not is_integer(step) or (here, step) not in edges:
            return False
        along.append(edges[(here, step)])
        here = program[2][along[-1]][2]
    if pairs[here] != output[:2]:
        return False
    rows, spots = shape
    nodes, places, _ = traced_run(program, tuple(along), rows, {name: spots[k] for k, name in enumerate(program[0])})
    e, f = _names_of(output)
    return places[e] != places[f]
