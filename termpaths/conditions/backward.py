"""Backward: what must stand before actions and paths so that something holds behind them.

All patterns are shapes here, as what is found on the way may have any weight. A goal of None is met by nothing.
"""

from termpaths.base.rows import evaluated, rows_beside
from termpaths.patterns.shapes import acted, free_shape, is_instance, merged
from termpaths.programs.tracing import is_read, traced, traced_run


def preceding(names, shape, action):
    """Return the most general shape of which an action makes an instance of a shape, or None."""
    return narrowed(names, free_shape(len(names)), [(action, shape)])


def narrowed(names, shape, wanted):
    """Return the most general instance of a shape of which each action makes an instance of its goal, or None.

    What is wanted is a list of pairs of an action and a goal.
    """
    if None in [goal for _, goal in wanted]:
        return None
    nodes, spots = shape
    here = {name: spots[k] for k, name in enumerate(names)}
    pairs = []
    for action, goal in wanted:
        nodes, places, _ = traced(nodes, here, [action], (0,))
        behind = len(nodes)
        nodes = rows_beside(nodes, goal[0])
        pairs.extend([(places[name], goal[1][k] + behind) for k, name in enumerate(names)])
    return without_reads(merged(nodes, spots, pairs))


def without_reads(shape):
    """Return a shape, or None if there is none, or if it has a value that was read."""
    if shape is None or any([is_read(row) for row in shape[0]]):
        return None
    return shape


def condition_steps(program, point, goal):
    """Yield the condition tables of all rounds, to the last one that differs from the one before it.

    They have no point for which there is no condition. The goal is what is wanted at the point.
    """
    free = free_shape(len(program[0]))
    table = {k: goal if k == point else free for k in range(program[1]) if k != point or goal is not None}
    changed = {point: True}
    while changed:
        yield table
        table, changed = _next_conditions(program, table, changed)


def _next_conditions(program, table, changed):
    """Return the condition table behind one, and a dict of the points that have another condition in it."""
    wanted = _wanted(program, table, changed)
    made = {}
    fresh = {}
    for point in table:
        shape = table[point]
        if point in wanted:
            shape = narrowed(program[0], shape, wanted[point])
        if shape is not None:
            made[point] = shape
        if shape != table[point]:
            fresh[point] = True
    return made, fresh


def _wanted(program, table, changed):
    """Return for the points before changed ones lists of pairs of an action and what is wanted behind it."""
    wanted = {}
    for first, action, last in program[2]:
        if last in changed:
            if first not in wanted:
                wanted[first] = []
            wanted[first].append((action, table.get(last)))
    return wanted


def forced_shape(program, runs, equalities):
    """Return the most general shape at the entry from which the equalities hold after each run, or None."""
    nodes, spots = free_shape(len(program[0]))
    here = {name: k for k, name in enumerate(program[0])}
    terms = [term for pair in equalities for term in pair]
    pairs = []
    for run in runs:
        nodes, places, _ = traced_run(program, run, nodes, here)
        nodes, found = evaluated(nodes, places, terms)
        pairs.extend([(found[2 * k], found[2 * k + 1]) for k in range(len(equalities))])
    return without_reads(merged(nodes, spots, pairs))


def exact_conditions(program, point, goal, length):
    """Return a list of what is wanted before paths of exactly 0, 1, .. edges to a point.

    Each is a dict from points to shapes, or to None where nothing is enough. What is not in it needs nothing.
    """
    free = free_shape(len(program[0]))
    layers = [{point: goal}]
    for left in range(length):
        behind = layers[left]
        wanted = _wanted(program, behind, behind)
        made = {}
        for first in wanted:
            made[first] = narrowed(program[0], free, wanted[first])
        layers.append({first: made[first] for first in made if made[first] != free})
    return layers


def is_met(table, point, shape):
    """Tell whether a shape meets the condition of a point in a condition table."""
    return point in table and is_instance(table[point], shape)


def shortest_failing_path(program, point, goal, start):
    """Return the smallest one of the shortest runs to a point that do not meet a goal there; there is one."""
    tables = []
    for found in condition_steps(program, point, goal):
        tables.append(found)
        if not is_met(found, 0, start):
            break
    return failing_path(program, tables, start)


def failing_path(program, tables, start):
    """Return the run with the fewest edges, of several the smallest one, behind which the goal is not met.

    The tables are the condition tables from round 0 on, and the start is the shape at the entry. If there is no such
    run with fewer edges than there are tables, return None.
    """
    failing = [k for k in range(len(tables)) if not is_met(tables[k], 0, start)]
    if not failing:
        return None
    run = ()
    here = 0
    state = start
    for left in reversed(range(failing[0])):
        # No run with fewer edges fails, so whatever fails within so many edges fails behind exactly so many.
        index, state = _first_failing_step(program, tables[left], here, state)
        here = program[2][index][2]
        run = (*run, index)
    return run


def _first_failing_step(program, table, here, state):
    """Return the first edge from a point behind which the condition is not met, and the shape behind it."""
    names, _, edges = program
    for index in range(len(edges)):
        first, action, last = edges[index]
        if first == here:
            made = acted(names, state, action)
            if not is_met(table, last, made):
                return index, made
    return None
