"""Following: whether each run of a program has a run of a second one beside it, as labels tell."""

from termpaths.base.checks import is_index
from termpaths.errors import InvalidOperation
from termpaths.programs.programs import check_program
from termpaths.programs.runs import run_end


def follows(first, second, labels):
    """Tell whether the second program follows the first one."""
    return following_paper(first, second, labels)[0] == "follows"


def following_paper(first, second, labels):
    """Return a paper that shows that the second program follows the first one, or that it does not."""
    check_pair(first, second, labels)
    origins, settled, lost = _met(first, second, labels)
    if lost is not None:
        pair, edge = lost
        return ("lost", (*_run_to(origins, pair), edge))
    ahead = _labels_ahead(second, labels)
    for pair in settled:
        for index in _not_followed(first, ahead, pair):
            if settled[pair] is None:
                return ("stuck", (), index)
            earlier, edge = settled[pair]
            return ("stuck", (*_run_to(origins, earlier), edge), index)
    return ("follows", tuple(sorted(set(origins))))


def is_following_paper(first, second, labels, value):
    """Tell whether a value is a paper about whether the second program follows the first one."""
    check_pair(first, second, labels)
    if not isinstance(value, tuple):
        return False
    if len(value) == 2 and value[0] == "follows":
        return _are_enough_pairs(first, second, labels, value[1])
    if len(value) == 2 and value[0] == "lost":
        return run_end(second, value[1]) is not None and run_end(first, _labels_along(labels, value[1])) is None
    if len(value) == 3 and value[0] == "stuck":
        return _is_stuck(first, second, labels, value[1], value[2])
    return False


def check_pair(first, second, labels):
    """Raise an error for what are not two programs, and labels of the second one for the first one."""
    check_program(first)
    check_program(second)
    if not are_labels(first, second, labels):
        raise InvalidOperation("not a tuple with None or an edge of the first program for each edge of the second one")


def are_labels(first, second, value):
    """Tell whether a value is labels of the second program for the first one."""
    if not isinstance(value, tuple) or len(value) != len(second[2]):
        return False
    return all([label is None or is_index(label, len(first[2])) for label in value])


def met_pairs(first, second, labels):
    """Return the pairs that are met, ascending."""
    origins, _, _ = _met(first, second, labels)
    return tuple(sorted(set(origins)))


def pair_behind(first, second, labels, pair, edge):
    """Return the pair behind an edge of the second program from a pair, or None if the first one cannot go along."""
    label = labels[edge]
    last = second[2][edge][2]
    if label is None:
        return (pair[0], last)
    begin, _, end = first[2][label]
    return (end, last) if begin == pair[0] else None


def _met(first, second, labels):
    """Return dicts from the pairs that are met, and from those that are settled, to how they were come by.

    This is the pair before and the last edge of the second program, with a label for what is settled; it is None
    for the entries. Return also a pair and an edge of the second program with which the first one cannot go along, or
    None if there are none.
    """
    origins = {(0, 0): None}
    settled = {(0, 0): None}
    lost = None
    leaving = _leaving(second)
    todo = [(0, 0)]
    while todo:
        fresh = []
        for pair in todo:
            for edge in leaving[pair[1]]:
                behind = pair_behind(first, second, labels, pair, edge)
                if behind is None:
                    lost = (pair, edge)
                    continue
                if labels[edge] is not None and behind not in settled:
                    settled[behind] = (pair, edge)
                if behind not in origins:
                    origins[behind] = (pair, edge)
                    fresh.append(behind)
        todo = fresh
    return origins, settled, lost


def _run_to(origins, pair):
    """Return a run of the second program to a pair that is met."""
    back = []
    while origins[pair] is not None:
        pair, edge = origins[pair]
        back.append(edge)
    return tuple(back[::-1])


def _leaving(program):
    """Return for each point the indices of the edges from there, ascending."""
    return [[k for k, edge in enumerate(program[2]) if edge[0] == point] for point in range(program[1])]


def _labels_ahead(second, labels):
    """Return for each point of the second program a dict of the labels to which a path without labels leads."""
    leaving = _leaving(second)
    found = []
    for point in range(second[1]):
        reached = {point: True}
        ahead = {}
        todo = [point]
        while todo:
            here = todo.pop()
            for edge in leaving[here]:
                last = second[2][edge][2]
                if labels[edge] is not None:
                    ahead[labels[edge]] = True
                elif last not in reached:
                    reached[last] = True
                    todo.append(last)
        found.append(ahead)
    return found


def _not_followed(first, ahead, pair):
    """Return the edges of the first program from a pair that cannot be followed."""
    return [k for k, edge in enumerate(first[2]) if edge[0] == pair[0] and k not in ahead[pair[1]]]


def _labels_along(labels, run):
    """Return the labels of the edges of a run, without None."""
    return tuple([labels[edge] for edge in run if labels[edge] is not None])


def _are_enough_pairs(first, second, labels, value):
    """Tell whether a value is an ascending tuple of pairs that shows that the second program follows the first."""
    if not isinstance(value, tuple) or not all([_is_pair(first, second, pair) for pair in value]):
        return False
    pairs = {pair: True for pair in value}
    if list(value) != sorted(set(pairs)) or (0, 0) not in pairs:
        return False
    settled = {(0, 0): True}
    leaving = _leaving(second)
    for pair in value:
        for edge in leaving[pair[1]]:
            behind = pair_behind(first, second, labels, pair, edge)
            if behind not in pairs:
                return False
            if labels[edge] is not None:
                settled[behind] = True
    ahead = _labels_ahead(second, labels)
    return not any([_not_followed(first, ahead, pair) for pair in settled])


def _is_pair(first, second, value):
    if not isinstance(value, tuple) or len(value) != 2:
        return False
    return is_index(value[0], first[1]) and is_index(value[1], second[1])


def _is_stuck(first, second, labels, run, index):
    """Tell whether an edge of the first program from where a run leads cannot be followed from there."""
    last = run_end(second, run)
    if last is None or (run != () and labels[run[-1]] is None) or not is_index(index, len(first[2])):
        return False
    if run_end(first, _labels_along(labels, run)) != first[2][index][0]:
        return False
    return index not in _labels_ahead(second, labels)[last]
