"""Heights and sizes of values after runs, and whether they are bounded."""

from termpaths.base.checks import is_index
from termpaths.base.rows import below, heights_of, sizes_of
from termpaths.base.terms import is_integer
from termpaths.bounds.growth import (
    bases_of, flows_of, greatest_numbers, growing_flows, grown, is_led, leads_of, pairs_of, shortest_run, way_between,
)
from termpaths.errors import UnknownName
from termpaths.patterns.shapes import free_shape
from termpaths.programs.programs import check_point, check_program, reached_in
from termpaths.programs.runs import check_run, entry_pattern, path_end, run_end
from termpaths.programs.tracing import traced_run


def height_after(program, run, name, *, entry=None):
    """Return the height of the value of a name after a run."""
    start = _start_of_run(program, run, name, entry)
    return _height_behind(program, run, name, start)


def size_after(program, run, name, *, entry=None):
    """Return the size of the value of a name after a run, as it is written."""
    start = _start_of_run(program, run, name, entry)
    nodes, places, _ = traced_run(program, run, start.rows, start.places)
    return sizes_of(nodes)[places[name]]


def height_paper(program, point, name, *, entry=None):
    """Return a paper that shows that a name is bounded at a point, that it grows there, or that no run leads there."""
    start = _start_at_point(program, point, name, entry)
    pairs = pairs_of(program)
    if (point, name) not in pairs:
        return ("empty",)
    asked = pairs.index((point, name))
    flows = flows_of(program, pairs)
    masks = leads_of(pairs, flows)
    for edge, source, target, _ in growing_flows(flows, masks):
        if is_led(masks, source, asked):
            before = shortest_run(program, pairs[source][0])
            loop = (edge, *way_between(flows, target, source))
            return ("grows", before, loop, way_between(flows, source, asked), pairs[source][1])
    numbers, origins = _numbers_of(program, start, pairs, flows, masks)
    needed = {pairs[k]: numbers[k] for k in range(len(pairs)) if k == asked or is_led(masks, k, asked)}
    return ("bounded", needed, _greatest_run(program, pairs, origins, asked))


def is_height_paper(program, point, name, value, *, entry=None):
    """Tell whether a value is a paper about the heights of a name at a point."""
    start = _start_at_point(program, point, name, entry)
    if not isinstance(value, tuple) or not value:
        return False
    if len(value) == 1:
        return value[0] == "empty" and point not in reached_in(program)
    if len(value) == 3 and value[0] == "bounded" and run_end(program, value[2]) == point:
        if not _are_bounds(program, value[1], start) or (point, name) not in value[1]:
            return False
        return _height_behind(program, value[2], name, start) == value[1][(point, name)]
    if len(value) == 5 and value[0] == "grows":
        return _is_growth(program, point, name, value)
    return False


def greatest_height(program, point, name, *, entry=None):
    """Return the greatest height of a name after a run to a point, or None if it grows or no run leads there."""
    start = _start_at_point(program, point, name, entry)
    return _results(program, start).get((point, name))


def heights(program, *, entry=None):
    """Return for each point that runs reach the greatest heights of all names, or None for those that grow."""
    check_program(program)
    results = _results(program, entry_pattern(program, entry))
    return {point: {name: results[(point, name)] for name in program[0]} for point in reached_in(program)}


def _check_name(program, name):
    if name not in program[0]:
        raise UnknownName(name)


def _start_of_run(program, run, name, entry):
    """Return the entry pattern for a question about a run, or raise the error of what is passed."""
    check_program(program)
    check_run(program, run)
    _check_name(program, name)
    return entry_pattern(program, entry)


def _start_at_point(program, point, name, entry):
    """Return the entry pattern for a question about a point, or raise the error of what is passed."""
    check_program(program)
    check_point(program, point)
    _check_name(program, name)
    return entry_pattern(program, entry)


def _height_behind(program, run, name, start):
    nodes, places, _ = traced_run(program, run, start.rows, start.places)
    return heights_of(nodes)[places[name]]


def _start_heights(start):
    """Return a dict from the pairs at the entry to the heights in the entry pattern."""
    found = heights_of(start.rows)
    return {(0, name): found[place] for name, place in start.places.items()}


def _numbers_of(program, start, pairs, flows, masks):
    """Return the greatest heights of the pairs that do not grow, and how they come to be."""
    given = _start_heights(start)
    starts = [given.get(pair, 0) for pair in pairs]
    return greatest_numbers(starts, flows, bases_of(program, pairs), grown(pairs, flows, masks))


def _results(program, start):
    """Return a dict from all pairs to their greatest heights, or to None if they grow."""
    pairs = pairs_of(program)
    flows = flows_of(program, pairs)
    masks = leads_of(pairs, flows)
    growing = grown(pairs, flows, masks)
    numbers, _ = _numbers_of(program, start, pairs, flows, masks)
    return {pairs[k]: None if growing[k] else numbers[k] for k in range(len(pairs))}


def _greatest_run(program, pairs, origins, asked):
    """Return a run after which a name has the greatest height, by what the height comes from."""
    back = []
    pair = asked
    while origins[pair] is not None:
        edge, source = origins[pair]
        back.append(edge)
        if source is None:
            return (*shortest_run(program, program[2][edge][0]), *back[::-1])
        pair = source
    return (*shortest_run(program, pairs[pair][0]), *back[::-1])


def _are_bounds(program, value, start):
    """Tell whether a value is a dict of numbers that bound the heights of all its pairs."""
    if not isinstance(value, dict):
        return False
    reached = reached_in(program)
    given = _start_heights(start)
    for pair in value:
        if not isinstance(pair, tuple) or len(pair) != 2 or not is_index(pair[0], program[1]):
            return False
        if pair[0] not in reached or pair[1] not in program[0]:
            return False
        if not is_integer(value[pair]) or value[pair] < given.get(pair, 0):
            return False
    pairs = pairs_of(program)
    for _, target, height in bases_of(program, pairs):
        if pairs[target] in value and value[pairs[target]] < height:
            return False
    for _, source, target, depth in flows_of(program, pairs):
        if pairs[target] in value:
            if pairs[source] not in value or value[pairs[target]] < value[pairs[source]] + depth:
                return False
    return True


def _is_growth(program, point, name, value):
    """Tell whether a value shows by a loop that a name grows at a point."""
    _, before, loop, after, told = value
    middle = run_end(program, before)
    if middle is None or told not in program[0] or loop == ():
        return False
    if path_end(program, middle, loop) != middle or path_end(program, middle, after) != point:
        return False
    rows, spots = free_shape(len(program[0]))
    holes = {other: spots[k] for k, other in enumerate(program[0])}
    nodes, places, _ = traced_run(program, loop, rows, holes)
    if places[told] == holes[told] or holes[told] not in below(nodes, [places[told]]):
        return False
    nodes, places, _ = traced_run(program, after, rows, holes)
    return holes[told] in below(nodes, [places[name]])
