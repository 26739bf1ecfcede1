"""Tracing: the values after many actions, in rows that only grow.

A row (position,) is a value that was read; no operator is a number, so it is equal to nothing else.
"""

from termpaths.base.rows import integers_in
from termpaths.base.terms import postfix


def traced(rows, places, actions):
    """Return the rows with all that some actions make, one behind the other.

    The dict places has the positions of the names. Return also such a dict for the names behind all actions, and a
    list of the positions of what is read.
    """
    nodes = list(rows)
    known = {row: position for position, row in enumerate(rows)}
    here = {name: places[name] for name in places}
    reads = []
    for action in actions:
        leaves = {name: here[name] for name in here}
        for integer in integers_in([term for _, term in action]):
            leaves[integer] = len(nodes)
            reads.append(len(nodes))
            nodes.append((len(nodes),))
        for name, term in action:
            stack = []
            for step in postfix(term):
                if not isinstance(step, tuple):
                    stack.append(leaves[step])
                    continue
                operator, many = step
                cut = len(stack) - many
                row = (operator, *stack[cut:])
                if row not in known:
                    known[row] = len(nodes)
                    nodes.append(row)
                stack = stack[:cut]
                stack.append(known[row])
            here[name] = stack[0]
    return nodes, here, reads


def is_read(row):
    """Tell whether a row is a value that was read."""
    return isinstance(row, tuple) and isinstance(row[0], int)


def actions_of(program, run):
    """Return the actions of the edges of a run."""
    edges = program[2]
    return [edges[index][1] for index in run]
