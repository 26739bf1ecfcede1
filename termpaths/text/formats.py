"""Texts of terms, patterns, actions, edges, programs and runs, and what they are the texts of."""

from termpaths.base.checks import fits_action, is_index
from termpaths.base.terms import check_term, is_name, is_term, postfix
from termpaths.errors import InvalidRun, InvalidTerm, ParseError, TooLarge
from termpaths.patterns.patterns import MAX_NAMES, Pattern, check_pattern
from termpaths.programs.programs import MAX_POINTS, check_program, is_program
from termpaths.programs.runs import MAX_RUN
from termpaths.text.reading import number_of, term_of

MAX_INDEX = 9999


def format_term(term):
    """Return the text of a term."""
    check_term(term)
    return _term_text(term)


def parse_term(text):
    """Return the term of a text."""
    _check_string(text)
    return term_of(text)


def format_pattern(pattern):
    """Return the text of a pattern."""
    check_pattern(pattern)
    return "; ".join([f"{name} = {_term_text(pattern[name])}" for name in pattern.names])


def parse_pattern(text):
    """Return the pattern of a text."""
    _check_string(text)
    values = {}
    for part in text.split("; "):
        name, _, value = part.partition(" = ")
        values[name] = term_of(value)
        if not is_name(name) or not _is_value(values[name]):
            raise ParseError("not a name and its value")
    if len(values) > MAX_NAMES:
        raise ParseError("more than ten names")
    try:
        pattern = Pattern.of(values)
    except TooLarge:
        raise ParseError("the weight is too great")
    # The names and the holes may be in another order, or a name may occur twice.
    if format_pattern(pattern) != text:
        raise ParseError("not the text of a pattern")
    return pattern


def format_action(action):
    """Return the text of an action."""
    if not _is_possible_action(action):
        raise InvalidTerm("not an action that a program can have")
    return _action_text(action)


def parse_action(text):
    """Return the action of a text."""
    _check_string(text)
    action = _action_of(text)
    if not _is_possible_action(action):
        raise ParseError("not an action that a program can have")
    return action


def format_edge(edge):
    """Return the text of an edge."""
    if not _is_possible_edge(edge):
        raise InvalidTerm("not an edge that a program can have")
    return _edge_text(edge)


def parse_edge(text):
    """Return the edge of a text."""
    _check_string(text)
    edge = _edge_of(text)
    if not _is_possible_edge(edge):
        raise ParseError("not an edge that a program can have")
    return edge


def format_program(program):
    """Return the text of a program."""
    check_program(program)
    names, size, edges = program
    named = " ".join(list(names))
    return "\n".join([f"names {named}", f"points {size}", *[_edge_text(edge) for edge in edges]])


def parse_program(text):
    """Return the program of a text."""
    _check_string(text)
    lines = text.split("\n")
    if len(lines) < 2 or not lines[0].startswith("names ") or not lines[1].startswith("points "):
        raise ParseError("not two lines with names and points")
    names = tuple(lines[0].split(" ")[1:])
    program = (names, number_of(lines[1].removeprefix("points ")), tuple([_edge_of(line) for line in lines[2:]]))
    if not is_program(program):
        raise ParseError("not the text of a program")
    return program


def format_run(run):
    """Return the text of a run."""
    if not isinstance(run, tuple) or len(run) > MAX_RUN or not all([is_index(index, MAX_INDEX + 1) for index in run]):
        raise InvalidRun("not a tuple of at most 200 integers from 0 to 9999")
    return " ".join([str(index) for index in run]) if run else "-"


def parse_run(text):
    """Return the run of a text."""
    _check_string(text)
    if text == "-":
        return ()
    run = tuple([number_of(word) for word in text.split(" ")])
    if len(run) > MAX_RUN:
        raise ParseError("more than 200 edges")
    return run


def _check_string(text):
    if not isinstance(text, str):
        raise ParseError("not a string")


def _term_text(term):
    if isinstance(term, int):
        return f"?{term}"
    if isinstance(term, str):
        return term
    inner = ", ".join([_term_text(one) for one in term[1:]])
    return f"{term[0]}({inner})"


def _is_value(term):
    """Tell whether a term has no variables."""
    return not any([isinstance(step, str) for step in postfix(term)])


def _action_text(action):
    return "; ".join([f"{name} := {_term_text(term)}" for name, term in action]) if action else "skip"


def _action_of(text):
    """Return the pairs of a name and a term that a text tells, which need not be an action."""
    if text == "skip":
        return ()
    pairs = []
    for part in text.split("; "):
        name, _, term = part.partition(" := ")
        pairs.append((name, term_of(term)))
    return tuple(pairs)


def _edge_text(edge):
    first, action, last = edge
    return f"{first} -> {last}: {_action_text(action)}"


def _edge_of(text):
    """Return two points with an action between that a text tells, which need not be an edge."""
    points, _, action = text.partition(": ")
    first, _, last = points.partition(" -> ")
    return (number_of(first), _action_of(action), number_of(last))


def _is_possible_action(value):
    """Tell whether a value is an action over at most ten names."""
    if not isinstance(value, tuple):
        return False
    for pair in value:
        if not isinstance(pair, tuple) or len(pair) != 2 or not is_name(pair[0]) or not is_term(pair[1]):
            return False
    leaves = [step for _, term in value for step in postfix(term) if isinstance(step, str)]
    names = sorted(set([*leaves, *[name for name, _ in value]]))
    return len(names) <= MAX_NAMES and fits_action(names, value)


def _is_possible_edge(value):
    if not isinstance(value, tuple) or len(value) != 3:
        return False
    return is_index(value[0], MAX_POINTS) and _is_possible_action(value[1]) and is_index(value[2], MAX_POINTS)
