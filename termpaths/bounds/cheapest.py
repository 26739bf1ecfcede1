"""Cheapest terms: values that are taken from names that hold them, or made of as few operators as possible."""

from termpaths.base.checks import check_closed_term, is_closed_term, is_index
from termpaths.base.rows import evaluated, held_by, read_term, shared
from termpaths.base.terms import is_integer, is_name, is_term, postfix
from termpaths.errors import InvalidNumber, InvalidOperation, InvalidTerm, TooLarge
from termpaths.patterns.patterns import check_pattern, pattern_of

MAX_STEPS = 500


def holders(pattern, term):
    """Return the names that hold the value of a term, ascending."""
    check_pattern(pattern)
    check_closed_term(pattern.names, term)
    _, spots = evaluated(pattern.rows, pattern.places, (term,))
    return held_by(pattern.places).get(spots[0], ())


def cost_of(term, *, costs=None, loads=None):
    """Return the cost of a term without integers."""
    if not is_term(term) or any([isinstance(step, int) for step in postfix(term)]):
        raise InvalidTerm("not a term without integers")
    _check_costs(costs)
    if not _are_amounts(loads, 0):
        raise InvalidOperation("the loads are not a dict from names to integers of at least 0")
    return _cost(term, costs, loads)


def least_cost(pattern, term, *, costs=None, loads=None):
    """Return the least cost of the value of a term."""
    _check(pattern, term, costs, loads)
    rows, spots = evaluated(pattern.rows, pattern.places, (term,))
    amounts, _ = _least_ways(rows, held_by(pattern.places), costs, loads)
    return amounts[spots[0]]


def cheapest(pattern, term, *, costs=None, loads=None):
    """Return a cheapest term with the value of a term; of several names the least one is taken."""
    _check(pattern, term, costs, loads)
    rows, spots = evaluated(pattern.rows, pattern.places, (term,))
    # A name is never greater than what is made, so this term is the smallest and the lowest of all cheapest ones.
    _, ways = _least_ways(rows, held_by(pattern.places), costs, loads)
    return read_term(ways, spots[0])


def is_cheapest(pattern, term, value, *, costs=None, loads=None):
    """Tell whether a value is a cheapest term with the value of a term."""
    _check(pattern, term, costs, loads)
    if not is_closed_term(value, pattern.names) or not pattern.same(term, value):
        return False
    return _cost(value, costs, loads) == least_cost(pattern, term, costs=costs, loads=loads)


def cheapest_steps(pattern, *terms):
    """Return cheapest steps that compute all terms."""
    return cheapest_steps_of(pattern, terms)


def cheapest_steps_of(pattern, terms):
    """Return cheapest steps that compute all terms of a tuple."""
    check_pattern(pattern)
    _check_terms(pattern, terms)
    rows, spots = evaluated(pattern.rows, pattern.places, terms)
    held = held_by(pattern.places)
    made = _made_for(rows, held, spots)
    if len(made) > MAX_STEPS:
        raise TooLarge(MAX_STEPS)
    leaves = {position: names[0] for position, names in held.items()}
    for k in range(len(made)):
        leaves[made[k]] = k + 1
    return tuple([(rows[position][0], *[leaves[inner] for inner in rows[position][1:]]) for position in made])


def are_steps(pattern, value):
    """Tell whether a value is a tuple of at most 500 steps."""
    check_pattern(pattern)
    if not isinstance(value, tuple) or len(value) > MAX_STEPS:
        return False
    return all([_is_step(pattern, step, k) for k, step in enumerate(value)])


def steps_value(pattern, steps, index):
    """Return the pattern with the one name v that has the value of a step."""
    if not are_steps(pattern, steps):
        raise InvalidOperation("not steps of at most 500 terms")
    if not is_index(index, len(steps)):
        raise InvalidNumber(index)
    rows, spots = _values_of_steps(pattern, steps)
    return pattern_of(("v",), shared(rows, (spots[index],)))


def is_cheapest_steps(pattern, terms, value):
    """Tell whether a value is cheapest steps that compute all terms of a tuple."""
    check_pattern(pattern)
    _check_terms(pattern, terms)
    if not are_steps(pattern, value):
        return False
    rows, made = _values_of_steps(pattern, value)
    _, asked = evaluated(rows, pattern.places, terms)
    held = held_by(pattern.places)
    computed = {position: True for position in made}
    if len(computed) < len(made) or any([position in held for position in made]):
        return False
    if not all([position in held or position in computed for position in asked]):
        return False
    used = {position: True for position in asked}
    for step in value:
        for leaf in step[1:]:
            if isinstance(leaf, int):
                used[made[leaf - 1]] = True
    return all([position in used for position in made])


def _check(pattern, term, costs, loads):
    check_pattern(pattern)
    check_closed_term(pattern.names, term)
    _check_costs(costs)
    if not _are_amounts(loads, 0) or (loads is not None and not all([name in pattern for name in loads])):
        raise InvalidOperation("the loads are not a dict from names of the pattern to integers of at least 0")


def _check_costs(costs):
    if not _are_amounts(costs, 1):
        raise InvalidOperation("the costs are not a dict from operators to integers of at least 1")


def _are_amounts(value, least):
    """Tell whether a value is None, or a dict from names to integers of at least so much."""
    if value is None:
        return True
    if not isinstance(value, dict):
        return False
    return all([is_name(name) and is_integer(value[name]) and value[name] >= least for name in value])


def _check_terms(pattern, terms):
    if not isinstance(terms, tuple):
        raise InvalidTerm("the terms are not a tuple")
    for term in terms:
        check_closed_term(pattern.names, term)


def _cost(term, costs, loads):
    """Return the cost of what is known to be a term without integers."""
    total = 0
    for step in postfix(term):
        total = total + (_load(step, loads) if isinstance(step, str) else _price(step[0], costs))
    return total


def _price(operator, costs):
    return 1 if costs is None else costs.get(operator, 1)


def _load(name, loads):
    return 0 if loads is None else loads.get(name, 0)


def _least_ways(rows, held, costs, loads):
    """Return for each row its least cost, and the name from which it is taken then, or the row itself.

    What cannot be made has the cost None.
    """
    amounts = []
    ways = []
    for position, row in enumerate(rows):
        amount = None
        way = row
        for name in held.get(position, ()):
            if amount is None or _load(name, loads) < amount:
                amount = _load(name, loads)
                way = name
        if isinstance(row, tuple):
            inner = [amounts[part] for part in row[1:]]
            made = None if None in inner else _price(row[0], costs) + sum(inner)
            if made is not None and (amount is None or made < amount):
                amount = made
                way = row
        amounts.append(amount)
        ways.append(way)
    return amounts, ways


def _made_for(rows, held, spots):
    """Return the positions of all values that must be made for those at some positions, each behind its parts."""
    made = {}
    todo = list(spots)
    while todo:
        position = todo.pop()
        if position not in held and position not in made:
            made[position] = True
            todo.extend(list(rows[position][1:]))
    return sorted(set(made))


def _is_step(pattern, value, many):
    """Tell whether a value is a step behind so many others."""
    if not is_term(value) or not isinstance(value, tuple):
        return False
    # The integers of a term are 1 or more.
    return all([leaf in pattern or is_index(leaf, many + 1) for leaf in value[1:]])


def _values_of_steps(pattern, steps):
    """Return the rows with the values of all steps, and the positions of these."""
    rows = list(pattern.rows)
    known = {row: position for position, row in enumerate(rows)}
    places = pattern.places
    made = []
    for step in steps:
        row = (step[0], *[made[leaf - 1] if isinstance(leaf, int) else places[leaf] for leaf in step[1:]])
        if row not in known:
            known[row] = len(rows)
            rows.append(row)
        made.append(known[row])
    return rows, made
