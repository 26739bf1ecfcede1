"""Exceeding: a run after which the value of a name is higher than a number."""

from termpaths.base.rows import heights_of
from termpaths.base.terms import height_of
from termpaths.bounds.growth import sources_of


def exceeding_run(program, start, point, name, most):
    """Return a run to a point, with as few edges as possible, after which a name is higher than most; or None.

    The start is the entry pattern. An event tells that some run of so many edges gives a name this height at a point,
    by the event before it and the last edge.
    """
    leaving = _leaving(program)
    events = list(_events_at_entry(start))
    best = {event[0]: event[1] for event in events}
    todo = list(range(len(events)))
    while todo:
        for k in todo:
            if events[k][0] == (point, name) and events[k][1] > most:
                return _run_of(events, k)
        made = {}
        for k in todo:
            pair, height, _, _ = events[k]
            for edge, target, depth in leaving.get(pair, ()):
                # What is too high makes all that it goes into too high, so how high it is need not be told.
                higher = height + depth if height + depth <= most else most + 1
                if higher > best.get(target, -1) and (target not in made or higher > made[target][1]):
                    made[target] = (target, higher, k, edge)
        todo = []
        for target in made:
            best[target] = made[target][1]
            todo.append(len(events))
            events.append(made[target])
    return None


def _events_at_entry(start):
    found = heights_of(start.rows)
    events = [((0, name), found[place], None, None) for name, place in start.places.items()]
    return [((0, None), 0, None, None), *events]


def _leaving(program):
    """Return a dict from pairs of a point and a name to lists of an edge, a pair behind it, and a depth.

    The name None stands for the point itself: from there come the heights of the terms as they are written.
    """
    found = {}
    for edge, (first, action, last) in enumerate(program[2]):
        steps = [(None, None, 0), *[(None, name, height_of(term)) for name, term in action]]
        for inner, name, depth in [*steps, *sources_of(program[0], action)]:
            if (first, inner) not in found:
                found[(first, inner)] = []
            found[(first, inner)].append((edge, (last, name), depth))
    return found


def _run_of(events, number):
    """Return the run whose last event has this number."""
    back = []
    _, _, before, edge = events[number]
    while before is not None:
        back.append(edge)
        _, _, before, edge = events[before]
    return tuple(back[::-1])
