"""Terms: names, integers, and operators with up to three terms."""

from termpaths.errors import InvalidTerm, TooLarge

MAX_SIZE = 60
MAX_HEIGHT = 7
MAX_HOLE = 500

MAX_LETTERS = 8
MAX_TERMS = 3
LETTERS = "abcdefghijklmnopqrstuvwxyz"


def is_integer(value):
    """Tell whether a value is an integer: True and False are none."""
    return isinstance(value, int) and not isinstance(value, bool)


def is_name(value):
    """Tell whether a value is a name."""
    if not isinstance(value, str) or not 1 <= len(value) <= MAX_LETTERS:
        return False
    return all([letter in LETTERS for letter in value])


def is_term(value):
    """Tell whether a value is a term."""
    return 0 < _size_within(value, MAX_HEIGHT) <= MAX_SIZE


def make_term(operator, *terms):
    """Return the term of an operator and terms."""
    return term_from(operator, terms)


def term_from(operator, terms):
    """Return the term of an operator and a tuple of terms."""
    if not is_name(operator) or not isinstance(terms, tuple) or len(terms) > MAX_TERMS:
        raise InvalidTerm("an operator needs a name and a tuple of at most three terms")
    for term in terms:
        check_term(term)
    made = (operator, *terms)
    _check_limits(made)
    return made


def names_in(term):
    """Return the variables of a term, ascending."""
    check_term(term)
    return tuple(sorted(set([step for step in postfix(term) if isinstance(step, str)])))


def holes_in(term):
    """Return the integers of a term, ascending."""
    check_term(term)
    return tuple(sorted(set([step for step in postfix(term) if isinstance(step, int)])))


def operators_in(term):
    """Return the pairs (operator, number of terms) of a term, ascending."""
    check_term(term)
    return tuple(sorted(set([step for step in postfix(term) if isinstance(step, tuple)])))


def size_of(term):
    """Return the number of names, integers and operators in a term."""
    check_term(term)
    return len(postfix(term))


def height_of(term):
    """Return the height of a term."""
    check_term(term)
    return _height(term)


def text_of(term):
    """Return the text of a term, as in f(x, g(7))."""
    check_term(term)
    return _text(term)


def parts_of(term):
    """Yield the different parts of a term, each behind the parts of its terms."""
    check_term(term)
    for part in list({found: True for found in _parts(term)}):
        yield part


def sorted_terms(terms):
    """Return the terms of a tuple by height, then by size, then by text."""
    if not isinstance(terms, tuple):
        raise InvalidTerm("the terms are not a tuple")
    for term in terms:
        check_term(term)
    orders = [_place_in_order(term) for term in terms]
    found = {orders[k]: terms[k] for k in range(len(terms))}
    ascending = sorted([str(order) for order in orders])
    return tuple([found[order] for order in ascending])


def put(term, **terms):
    """Return a term with terms put for its variables, which are passed as keywords."""
    return put_by(term, terms)


def put_by(term, terms):
    """Return a term with terms put for its variables, by a dict from names to terms."""
    check_term(term)
    if not isinstance(terms, dict):
        raise InvalidTerm("the terms to put are not a dict")
    for name in terms:
        if not is_name(name):
            raise InvalidTerm("a term is put for what is no name")
        check_term(terms[name])
    result = _put(term, terms)
    _check_limits(result)
    return result


def check_term(value):
    """Raise InvalidTerm for a value that is no term."""
    if not is_term(value):
        raise InvalidTerm("not a term")


def postfix(term):
    """Return the leaves of a term and a pair (operator, number of terms) behind the terms of each operator."""
    if not isinstance(term, tuple):
        return [term]
    steps = []
    for inner in term[1:]:
        steps.extend(postfix(inner))
    steps.append((term[0], len(term) - 1))
    return steps


def _size_within(value, height):
    """Return the size of a term of at most this height, and 0 for everything else."""
    if is_name(value) or (is_integer(value) and 1 <= value <= MAX_HOLE):
        return 1
    if not isinstance(value, tuple) or not 1 <= len(value) <= MAX_TERMS + 1 or not is_name(value[0]):
        return 0
    # Nothing below this height is looked at, so a value that is nested too deep costs no more than a term.
    if len(value) > 1 and height == 0:
        return 0
    sizes = [_size_within(inner, height - 1) for inner in value[1:]]
    return 0 if 0 in sizes else 1 + sum(sizes)


def _height(term):
    if not isinstance(term, tuple) or len(term) == 1:
        return 0
    return 1 + max([int(_height(inner)) for inner in term[1:]])


def _text(term):
    if not isinstance(term, tuple):
        return str(term)
    inner = ", ".join([_text(one) for one in term[1:]])
    return f"{term[0]}({inner})"


def _parts(term):
    """Return all parts of a term, each behind the parts of its terms."""
    found = []
    if isinstance(term, tuple):
        for inner in term[1:]:
            found.extend(_parts(inner))
    found.append(term)
    return found


def _place_in_order(term):
    """Return a string whose order is the order of terms."""
    return f"{_height(term)} {len(postfix(term)):02d} {_text(term)}"


def _put(term, terms):
    if isinstance(term, tuple):
        return (term[0], *[_put(inner, terms) for inner in term[1:]])
    return terms.get(term, term)


def _check_limits(term):
    if len(postfix(term)) > MAX_SIZE:
        raise TooLarge(MAX_SIZE)
    if _height(term) > MAX_HEIGHT:
        raise TooLarge(MAX_HEIGHT)
