"""Edits: what is changed in a store.

Its contents are a pair: a dict from names to pairs of a program and its entry pattern, and a tuple of assertions.
Contents are never changed; an edit makes new ones.
"""

from termpaths.base.checks import is_index
from termpaths.base.terms import is_name
from termpaths.errors import InvalidEdit, InvalidNumber, InvalidOperation, TooLarge, UnknownName
from termpaths.optimizer.optimizer import optimized
from termpaths.programs.programs import check_program, with_edge, without_edge
from termpaths.programs.runs import entry_pattern
from termpaths.store.assertions import fits_programs, is_known, renamed_in

MAX_PROGRAMS = 8
MAX_ASSERTIONS = 12

PARTS = {
    "put": 3, "enter": 3, "remove": 2, "rename": 3, "edge": 3, "cut": 3, "optimize": 4, "assert": 2, "drop": 2,
}


def edited(contents, edit):
    """Return the contents after an edit, or raise the error of the edit."""
    if not isinstance(edit, tuple) or not edit or not isinstance(edit[0], str) or PARTS.get(edit[0]) != len(edit):
        raise InvalidEdit("not an edit")
    make = MAKERS[edit[0]]
    known, assertions = make(contents[0], contents[1], edit)
    if not all([fits_programs(known, one) for one in assertions]):
        raise InvalidOperation("an assertion does not fit any more")
    return known, assertions


def _put(known, assertions, edit):
    _, name, program = edit
    if not is_name(name):
        raise InvalidOperation("not a name for a program")
    check_program(program)
    return _with_program(known, name, (program, entry_pattern(program, None))), assertions


def _enter(known, assertions, edit):
    _, name, entry = edit
    program, _ = _program_at(known, name)
    return _with_program(known, name, (program, entry_pattern(program, entry))), assertions


def _remove(known, assertions, edit):
    _program_at(known, edit[1])
    return {name: known[name] for name in known if name != edit[1]}, assertions


def _rename(known, assertions, edit):
    _, old, new = edit
    if not is_name(new):
        raise InvalidOperation("not a name for a program")
    _program_at(known, old)
    _check_free(known, new)
    made = {new if name == old else name: known[name] for name in known}
    return made, tuple([renamed_in(one, old, new) for one in assertions])


def _edge(known, assertions, edit):
    _, name, edge = edit
    program, start = _program_at(known, name)
    return _with_program(known, name, (with_edge(program, edge), start)), assertions


def _cut(known, assertions, edit):
    _, name, index = edit
    program, start = _program_at(known, name)
    return _with_program(known, name, (without_edge(program, index), start)), assertions


def _optimize(known, assertions, edit):
    _, name, new, outputs = edit
    if not is_name(new):
        raise InvalidOperation("not a name for a program")
    program, start = _program_at(known, name)
    _check_free(known, new)
    return _with_program(known, new, (optimized(program, outputs, entry=start), start)), assertions


def _assert(known, assertions, edit):
    if not fits_programs(known, edit[1]):
        raise InvalidOperation("the assertion does not fit the programs")
    if len(assertions) == MAX_ASSERTIONS:
        raise TooLarge(MAX_ASSERTIONS)
    return known, (*assertions, edit[1])


def _drop(known, assertions, edit):
    index = edit[1]
    if not is_index(index, len(assertions)):
        raise InvalidNumber(index)
    return known, assertions[:index] + assertions[index + 1:]


def _program_at(known, name):
    """Return the program of this name and its entry pattern."""
    if not is_known(known, name):
        raise UnknownName(name)
    return known[name]


def _check_free(known, name):
    if name in known:
        raise InvalidOperation("there is a program of this name")


def _with_program(known, name, told):
    """Return the programs with a new one, or with another one in the place of an old one."""
    if name not in known and len(known) == MAX_PROGRAMS:
        raise TooLarge(MAX_PROGRAMS)
    return {**known, name: told}


MAKERS = {
    "put": _put, "enter": _enter, "remove": _remove, "rename": _rename, "edge": _edge, "cut": _cut,
    "optimize": _optimize, "assert": _assert, "drop": _drop,
}
