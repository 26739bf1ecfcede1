"""Instances: how a pattern is made of another one, or where it cannot be."""

from termpaths.base.checks import is_index
from termpaths.base.rows import same_sign
from termpaths.patterns.patterns import check_same_names
from termpaths.patterns.shapes import matched


def match(p, q):
    """Return a dict from the holes of p to the positions in q.rows of what is put for them, or None."""
    check_same_names((p, q))
    places = p.places
    others = q.places
    found = matched(p.rows, [places[name] for name in p.names], q.rows, [others[name] for name in p.names])
    if found is None:
        return None
    return {row: found[position] for position, row in enumerate(p.rows) if isinstance(row, int)}


def misfit(p, q):
    """Return a misfit of p and q, or None if q is an instance of p."""
    check_same_names((p, q))
    rows = p.rows
    others = q.rows
    places = p.places
    other_places = q.places
    found = {}
    todo = [(places[name], other_places[name], (name,)) for name in p.names]
    while todo:
        position, other, place = todo.pop()
        if position in found:
            if found[position][0] != other:
                return _misfit_below(rows, others, position, found[position], (other, place))
            continue
        found[position] = (other, place)
        row = rows[position]
        if isinstance(row, tuple):
            if not same_sign(row, others[other]):
                return ("sign", place)
            for index in range(len(row) - 1):
                todo.append((row[index + 1], others[other][index + 1], (*place, index)))
    return None


def is_misfit(p, q, value):
    """Tell whether a value is a misfit of p and q."""
    check_same_names((p, q))
    if not isinstance(value, tuple) or not 2 <= len(value) <= 3:
        return False
    rows = p.rows
    others = q.rows
    ends = [_position(p, place) for place in value[1:]]
    other_ends = [_position(q, place) for place in value[1:]]
    if None in ends or None in other_ends:
        return False
    row = rows[ends[0]]
    if len(value) == 2:
        return value[0] == "sign" and isinstance(row, tuple) and not same_sign(row, others[other_ends[0]])
    if value[0] != "unlike" or not isinstance(row, int):
        return False
    return ends[0] == ends[1] and other_ends[0] != other_ends[1]


def _misfit_below(rows, others, position, first, second):
    """Return a misfit at two places of one part, or further in, where the others have different parts.

    Both are told by a pair (position in others, place).
    """
    while isinstance(rows[position], tuple):
        row = rows[position]
        for other, place in (first, second):
            if not same_sign(row, others[other]):
                return ("sign", place)
        left = others[first[0]]
        right = others[second[0]]
        # Equal parts are one row, so two rows with the same operator have different terms somewhere.
        index = [k for k in range(len(row) - 1) if left[k + 1] != right[k + 1]][0]
        position = row[index + 1]
        first = (left[index + 1], (*first[1], index))
        second = (right[index + 1], (*second[1], index))
    return ("unlike", first[1], second[1])


def _position(pattern, place):
    """Return the position of the part at a place, or None if this is no place of the pattern."""
    if not isinstance(place, tuple) or not place or place[0] not in pattern:
        return None
    rows = pattern.rows
    position = pattern.places[place[0]]
    for index in place[1:]:
        row = rows[position]
        if not isinstance(row, tuple) or not is_index(index, len(row) - 1):
            return None
        position = row[index + 1]
    return position
