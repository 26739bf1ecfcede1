"""What several parts of the package ask of their arguments."""

from termpaths.base.terms import is_integer, is_name, is_term, postfix
from termpaths.errors import InvalidOperation, InvalidTerm, UnknownName


def is_index(value, many):
    """Tell whether a value is an integer from 0 to many - 1."""
    return is_integer(value) and 0 <= value < many


def is_closed_term(value, names):
    """Tell whether a value is a term over some names, without integers."""
    return is_term(value) and all([step in names for step in postfix(value) if not isinstance(step, tuple)])


def check_closed_term(names, value):
    """Raise InvalidTerm for what is not a term over the names without integers."""
    if not is_closed_term(value, names):
        raise InvalidTerm("not a term over the names without integers")


def check_equalities(names, equalities):
    """Raise InvalidTerm for what is not a tuple of pairs of terms over the names without integers."""
    if not isinstance(equalities, tuple):
        raise InvalidTerm("the equalities are not a tuple")
    for pair in equalities:
        if not isinstance(pair, tuple) or len(pair) != 2:
            raise InvalidTerm("an equality is not a pair")
        check_closed_term(names, pair[0])
        check_closed_term(names, pair[1])


def fits_action(names, value):
    """Tell whether a value is an action over some names, which are an ascending tuple."""
    if not isinstance(value, tuple):
        return False
    for pair in value:
        if not isinstance(pair, tuple) or len(pair) != 2 or pair[0] not in names or not is_term(pair[1]):
            return False
        if not all([step in names for step in postfix(pair[1]) if isinstance(step, str)]):
            return False
    changed = [name for name, _ in value]
    return changed == sorted(set(changed))


def changed_names(names, changes):
    """Return a dict from all names to their new ones, by a dict from some of them to new ones."""
    if not isinstance(changes, dict) or not all([isinstance(name, str) for name in changes]):
        raise InvalidOperation("the new names are not a dict whose keys are strings")
    unknown = sorted(set([name for name in changes if name not in names]))
    if unknown:
        raise UnknownName(unknown[0])
    changed = {name: changes.get(name, name) for name in names}
    if not all([is_name(changed[name]) for name in names]):
        raise InvalidOperation("a new name is no name")
    if len(set([changed[name] for name in names])) < len(names):
        raise InvalidOperation("two names would be equal")
    return changed
