"""Assertions: what is said of the programs of a store, and whether it is true.

The programs are a dict from names to pairs of a program and its entry pattern.
"""

from termpaths.base.checks import is_closed_term, is_index
from termpaths.bounds.exceeding import exceeding_run
from termpaths.pairs.following import are_labels, following_paper
from termpaths.pairs.pairs import agreement_paper, are_outputs
from termpaths.patterns.patterns import Pattern
from termpaths.questions.failing import shortest_failing, shortest_misfit

MAX_MOST = 60


def fits_programs(known, assertion):
    """Tell whether a value is an assertion that fits the programs."""
    if not isinstance(assertion, tuple) or not assertion:
        return False
    word = assertion[0]
    if word == "agree":
        return len(assertion) == 5 and _fits_pair(known, assertion)
    if len(assertion) < 4 or not is_known(known, assertion[1]):
        return False
    program, _ = known[assertion[1]]
    if not is_index(assertion[2], program[1]):
        return False
    if len(assertion) == 4:
        return word == "shape" and _is_shape(program, assertion[3])
    if len(assertion) != 5:
        return False
    if word == "equal":
        return is_closed_term(assertion[3], program[0]) and is_closed_term(assertion[4], program[0])
    return word == "height" and assertion[3] in program[0] and is_index(assertion[4], MAX_MOST + 1)


def is_known(known, name):
    """Tell whether a value is the name of a program."""
    return isinstance(name, str) and name in known


def status_of(known, assertion):
    """Return whether an assertion that fits is kept, with a paper if it is not."""
    if assertion[0] == "agree":
        return _status_of_pair(known, assertion)
    program, start = known[assertion[1]]
    point = assertion[2]
    if assertion[0] == "equal":
        run = shortest_failing(program, point, assertion[3], assertion[4], entry=start)
    elif assertion[0] == "shape":
        run = shortest_misfit(program, point, assertion[3], entry=start)
    else:
        run = exceeding_run(program, start, point, assertion[3], assertion[4])
    return ("kept",) if run is None else ("broken", run)


def renamed_in(assertion, old, new):
    """Return an assertion with another name for one of the programs."""
    many = 2 if assertion[0] == "agree" else 1
    names = [new if name == old else name for name in assertion[1:many + 1]]
    return (assertion[0], *names, *assertion[many + 1:])


def _is_shape(program, value):
    return isinstance(value, Pattern) and all([name in program[0] for name in value.names])


def _fits_pair(known, assertion):
    _, name, other, labels, outputs = assertion
    if not is_known(known, name) or not is_known(known, other):
        return False
    first, _ = known[name]
    second, _ = known[other]
    return are_labels(first, second, labels) and are_outputs(first, second, outputs)


def _status_of_pair(known, assertion):
    _, name, other, labels, outputs = assertion
    first, start = known[name]
    second, _ = known[other]
    paper = following_paper(first, second, labels)
    if paper[0] == "follows":
        paper = agreement_paper(first, second, labels, outputs, entry=start)
    return ("broken", paper) if paper[0] in ("lost", "stuck", "differ") else ("kept",)
