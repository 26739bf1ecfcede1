"""Tables: for points of a program, a pattern of which the states after all runs to the point are instances."""

from termpaths.base.checks import is_index
from termpaths.errors import InvalidTable
from termpaths.patterns.patterns import Pattern, moved, shape_of
from termpaths.patterns.shapes import acted, is_instance
from termpaths.programs.programs import check_program
from termpaths.programs.runs import entry_pattern


def table(program, *, entry=None):
    """Return the table of a program: the common patterns of the states after all runs to each point."""
    last = {}
    for found in rounds(program, entry=entry):
        last = found
    return last


def rounds(program, *, entry=None):
    """Yield the rounds of a program, to the last one that differs from the one before it."""
    check_program(program)
    found = {0: entry_pattern(program, entry)}
    changed = {0: True}
    while changed:
        yield {point: found[point] for point in sorted(set(found))}
        found, changed = _next_round(program, found, changed)


def is_table(program, value):
    """Tell whether a value is a table of a program."""
    check_program(program)
    return _is_table_of(program, value)


def is_closed(program, value, *, entry=None):
    """Tell whether a value is a closed table that covers the entry pattern."""
    check_program(program)
    start = entry_pattern(program, entry)
    if not is_closed_table(program, value) or 0 not in value:
        return False
    return start <= value[0]


def joined_tables(program, first, second):
    """Return the join of two tables."""
    check_program(program)
    for one in (first, second):
        if not _is_table_of(program, one):
            raise InvalidTable("not a table of the program")
    made = {}
    for point in sorted(set([*first, *second])):
        if point in first and point in second:
            made[point] = first[point] | second[point]
        else:
            made[point] = first[point] if point in first else second[point]
    return made


def is_closed_table(program, value):
    """Tell whether a value is a closed table of a program, whatever it covers."""
    if not _is_table_of(program, value):
        return False
    shapes = {point: shape_of(value[point]) for point in value}
    for first, action, last in program[2]:
        if first in shapes:
            # What an action makes may be too great for a pattern, and still be an instance of a small one.
            if last not in shapes or not is_instance(shapes[last], acted(program[0], shapes[first], action)):
                return False
    return True


def _is_table_of(program, value):
    """Tell whether a value is a table of what is known to be a program."""
    if not isinstance(value, dict):
        return False
    return all([_is_entry_of_table(program, point, value[point]) for point in value])


def _is_entry_of_table(program, point, pattern):
    return is_index(point, program[1]) and isinstance(pattern, Pattern) and pattern.names == program[0]


def _next_round(program, found, changed):
    """Return the round behind one, and a dict of the points that have another pattern in it.

    Only the edges from points whose patterns have changed are followed: the others give what is joined already.
    """
    made = {point: found[point] for point in found}
    fresh = {}
    for first, action, last in program[2]:
        if first not in changed:
            continue
        reached = moved(found[first], action)
        if last not in made:
            made[last] = reached
            fresh[last] = True
        elif not reached <= made[last]:
            made[last] = made[last] | reached
            fresh[last] = True
    return made, fresh
