"""Growth: how the heights of names depend on those of other names, along the edges that runs pass.

A pair is a point and a name; all pairs of points that runs reach are in one list, and told by their places in it.
A flow (edge, source, target, depth) tells that the source goes into the target along the edge, and how deep it stands
there. A base (edge, target, height) tells the height of a term as if all its leaves had the height 0.
"""

from termpaths.base.terms import height_of, names_in
from termpaths.programs.programs import reached_in


def pairs_of(program):
    """Return all pairs of a point that runs reach and a name, ascending."""
    return [(point, name) for point in reached_in(program) for name in program[0]]


def flows_of(program, pairs):
    """Return all flows, in the order of the edges."""
    places = {pair: k for k, pair in enumerate(pairs)}
    flows = []
    for edge, (first, action, last) in _passed_edges(program):
        for inner, name, depth in sources_of(program[0], action):
            flows.append((edge, places[(first, inner)], places[(last, name)], depth))
    return flows


def sources_of(names, action):
    """Return triples (name, other name, depth) such that the name goes into the other one along an action."""
    changes = {name: term for name, term in action}
    found = []
    for name in names:
        term = changes.get(name, name)
        found.extend([(inner, name, _depth(inner, term)) for inner in names_in(term)])
    return found


def bases_of(program, pairs):
    """Return the bases of all terms, in the order of the edges."""
    places = {pair: k for k, pair in enumerate(pairs)}
    bases = []
    for edge, (_, action, last) in _passed_edges(program):
        bases.extend([(edge, places[(last, name)], height_of(term)) for name, term in action])
    return bases


def leads_of(pairs, flows):
    """Return for each pair a number whose bits tell the pairs into which it goes along one or more flows."""
    masks = [0] * len(pairs)
    for flow in flows:
        masks[flow[1]] = masks[flow[1]] | (1 << flow[2])
    for middle in range(len(pairs)):
        for k in range(len(pairs)):
            if is_led(masks, k, middle):
                masks[k] = masks[k] | masks[middle]
    return masks


def is_led(masks, source, target):
    """Tell whether a pair goes into another one along one or more flows."""
    return (masks[source] >> target) & 1 == 1


def growing_flows(flows, masks):
    """Return the flows that put their source deeper, and lead back to it."""
    return [flow for flow in flows if flow[3] > 0 and is_led(masks, flow[2], flow[1])]


def grown(pairs, flows, masks):
    """Return for each pair whether its name grows there."""
    mask = 0
    for flow in growing_flows(flows, masks):
        mask = mask | masks[flow[1]]
    return [(mask >> k) & 1 == 1 for k in range(len(pairs))]


def greatest_numbers(starts, flows, bases, growing):
    """Return the greatest heights of all pairs that do not grow, and how they come to be.

    The starts are the heights that are there without any edge. What a height comes from is a pair of an edge and the
    source of a flow, or of an edge and None for the term of the edge itself; or None, if it is there without an edge.
    """
    numbers = list(starts)
    origins = [None] * len(numbers)
    for edge, target, height in bases:
        if height > numbers[target]:
            numbers[target] = height
            origins[target] = (edge, None)
    leaving = [[] for _ in numbers]
    for edge, source, target, depth in flows:
        # What goes into a name that does not grow does not grow itself.
        if not growing[target]:
            leaving[source].append((edge, target, depth))
    todo = list(range(len(numbers)))
    while todo:
        again = {}
        for source in todo:
            for edge, target, depth in leaving[source]:
                if numbers[source] + depth > numbers[target]:
                    numbers[target] = numbers[source] + depth
                    origins[target] = (edge, source)
                    again[target] = True
        todo = sorted(set(again))
    return numbers, origins


def way_between(flows, source, target):
    """Return the edges along which a pair goes into another one, as few as possible; no edge for the same one."""
    return _ways_from(source, [(edge, first, last) for edge, first, last, _ in flows])[target]


def shortest_run(program, point):
    """Return a run to a point with the fewest edges; there is one."""
    return _ways_from(0, [(edge, first, last) for edge, (first, _, last) in enumerate(program[2])])[point]


def _ways_from(start, steps):
    """Return a dict from all that steps (edge, from, to) reach to the edges on a way there, as few as possible."""
    ways = {start: ()}
    todo = {start: True}
    while todo:
        reached = {}
        for edge, first, last in steps:
            if first in todo and last not in ways:
                ways[last] = (*ways[first], edge)
                reached[last] = True
        todo = reached
    return ways


def _passed_edges(program):
    """Return the edges from points that runs reach, with their indices."""
    reached = reached_in(program)
    return [(index, edge) for index, edge in enumerate(program[2]) if edge[0] in reached]


def _depth(name, term):
    """Return how deep a name is in a term, at the deepest of its places, or -1 if it is not in it."""
    if term == name:
        return 0
    if not isinstance(term, tuple):
        return -1
    deepest = max([int(_depth(name, inner)) for inner in term[1:]], default=-1)
    return -1 if deepest < 0 else deepest + 1
