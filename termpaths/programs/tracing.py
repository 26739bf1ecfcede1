"""Tracing: the values after many actions, in rows that only grow.

A row (position,) is a value that was read; no operator is a number, so it is equal to nothing else.
"""

from termpaths.base.rows import integers_in
from termpaths.base.terms import postfix


def traced(rows, places, actions, order):
    """Return the rows with all that some actions make, one behind the other.

    The dict places has the positions of the names, and the order tells the indices of the actions. Return also such
    a dict for the names behind all actions, and a list of the positions of what is read.
    """
    nodes = list(rows)
    known = {row: position for position, row in enumerate(rows)}
    here = {name: places[name] for name in places}
    reads = []
    # A run may pass an edge many thousand times, so each action is taken apart only once.
    taken = {index: _taken_apart(actions[index]) for index in sorted(set(order))}
    for index in order:
        integers, changes = taken[index]
        leaves = {name: here[name] for name in here}
        for integer in integers:
            leaves[integer] = len(nodes)
            reads.append(len(nodes))
            nodes.append((len(nodes),))
        for name, steps in changes:
            stack = []
            for step in steps:
                if not isinstance(step, tuple):
                    stack.append(leaves[step])
                    continue
                operator, many = step
                cut = len(stack) - many
                row = (operator, *stack[cut:])
                if row not in known:
                    known[row] = len(nodes)
                    nodes.append(row)
                stack = stack[:cut]
                stack.append(known[row])
            here[name] = stack[0]
    return nodes, here, reads


def traced_run(program, run, rows, places):
    """Return the same as traced for the actions of the edges of a run, or of any path."""
    return traced(rows, places, [edge[1] for edge in program[2]], run)


def _taken_apart(action):
    """Return the integers of an action, ascending, and pairs of a name and the steps of its term."""
    return integers_in([term for _, term in action]), [(name, postfix(term)) for name, term in action]


def is_read(row):
    """Tell whether a row is a value that was read."""
    return isinstance(row, tuple) and isinstance(row[0], int)


def actions_of(program, run):
    """Return the actions of the edges of a run."""
    edges = program[2]
    return [edges[index][1] for index in run]
