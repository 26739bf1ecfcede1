"""Rows: values in which equal parts are one, however often they are written.

A row is an integer for a hole, or a tuple (operator, position, ..) with the positions of the rows of its terms.
"""

from termpaths.base.terms import MAX_HEIGHT, MAX_SIZE, postfix
from termpaths.errors import TooLarge


def same_sign(row, other):
    """Tell whether two rows have the same operator with as many terms."""
    if not isinstance(row, tuple) or not isinstance(other, tuple):
        return False
    return row[0] == other[0] and len(row) == len(other)


def hole_count(rows):
    """Return how many of the rows are holes."""
    return len([row for row in rows if isinstance(row, int)])


def integers_in(terms):
    """Return the integers of some terms, ascending."""
    return sorted(set([step for term in terms for step in postfix(term) if isinstance(step, int)]))


def with_holes(rows, leaves):
    """Return the rows with a new hole for each leaf, and a dict from the leaves to the positions of these."""
    first = hole_count(rows) + 1
    made = (*rows, *[first + k for k in range(len(leaves))])
    return made, {leaves[k]: len(rows) + k for k in range(len(leaves))}


def rows_beside(rows, others):
    """Return all rows with the others behind them, whose holes are made different."""
    holes = hole_count(rows)
    made = list(rows)
    for row in others:
        if isinstance(row, int):
            made.append(row + holes)
        else:
            made.append((row[0], *[position + len(rows) for position in row[1:]]))
    return tuple(made)


def evaluated(rows, places, terms):
    """Return the rows with those that the terms need, and the positions of the values of the terms.

    The rows are different from one another. The dict places has the positions of the leaves of the terms.
    """
    made = list(rows)
    known = {row: position for position, row in enumerate(rows)}
    positions = []
    for term in terms:
        stack = []
        for step in postfix(term):
            if not isinstance(step, tuple):
                stack.append(places[step])
                continue
            operator, many = step
            cut = len(stack) - many
            row = (operator, *stack[cut:])
            if row not in known:
                known[row] = len(made)
                made.append(row)
            stack = stack[:cut]
            stack.append(known[row])
        positions.append(stack[0])
    return made, positions


def shared(nodes, roots):
    """Return the rows of what the roots have, as in a shared form, and the positions of the roots.

    The nodes are as rows, but in any order, and equal ones may occur. If one contains itself, return None.
    """
    rows = []
    known = {}
    places = [-1] * len(nodes)
    holes = 0
    stack = list(reversed(list(roots)))
    while stack:
        node = stack.pop()
        row = nodes[node]
        if node >= 0:
            # What is begun and not done is among those that led here: it contains itself.
            if places[node] == -2:
                return None
            if places[node] >= 0:
                continue
            if isinstance(row, tuple) and len(row) > 1:
                # A negative index stands for a node that is begun; below it are the parts of its terms.
                places[node] = -2
                stack.append(node - len(nodes))
                stack.extend(row[:0:-1])
                continue
            key = row
        else:
            key = (row[0], *[places[part] for part in row[1:]])
        if key not in known:
            known[key] = len(rows)
            if isinstance(row, int):
                holes += 1
                rows.append(holes)
            else:
                rows.append(key)
        places[node] = known[key]
    return tuple(rows), tuple([places[root] for root in roots])


def below(rows, positions):
    """Return a dict whose keys are the positions of all parts of the values at some positions."""
    found = {}
    todo = list(positions)
    while todo:
        position = todo.pop()
        if position not in found:
            found[position] = True
            if isinstance(rows[position], tuple):
                todo.extend(list(rows[position][1:]))
    return found


def sizes_of(rows):
    """Return the size of the value of each row, as it is written."""
    sizes = []
    for row in rows:
        inner = row[1:] if isinstance(row, tuple) else ()
        sizes.append(1 + sum([sizes[position] for position in inner]))
    return sizes


def heights_of(rows):
    """Return the height of the value of each row."""
    heights = []
    for row in rows:
        inner = row[1:] if isinstance(row, tuple) else ()
        heights.append(max([int(heights[position]) + 1 for position in inner], default=0))
    return heights


def held_by(places):
    """Return a dict from the positions of names, whose order is ascending, to the tuples of the names there."""
    held = {}
    for name, place in places.items():
        held[place] = (*held.get(place, ()), name)
    return held


def taken_from(rows, held):
    """Return the rows with the least name in place of each one that names hold."""
    return [held[position][0] if position in held else row for position, row in enumerate(rows)]


def read_term(rows, position):
    """Return the value at a position as a term. What is no operator stands for itself."""
    if sizes_of(rows)[position] > MAX_SIZE:
        raise TooLarge(MAX_SIZE)
    if heights_of(rows)[position] > MAX_HEIGHT:
        raise TooLarge(MAX_HEIGHT)
    return _term_at(rows, position)


def _term_at(rows, position):
    row = rows[position]
    if not isinstance(row, tuple):
        return row
    return (row[0], *[_term_at(rows, inner) for inner in row[1:]])
