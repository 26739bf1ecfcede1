"""Finite models of the operators, in which terms that differ have different values, too."""

from termpaths.base.checks import check_closed_term, is_index
from termpaths.base.rows import below, evaluated, integers_in
from termpaths.base.terms import is_integer, is_name, is_term, postfix
from termpaths.errors import InvalidModel, InvalidNumber, InvalidOperation, InvalidTerm, TooLarge, UnknownName
from termpaths.patterns.patterns import check_pattern
from termpaths.programs.programs import check_program
from termpaths.programs.runs import check_run, entry_pattern, state_after, values_read
from termpaths.programs.tracing import actions_of, is_read, traced_run

MAX_MODEL = 200
MAX_ARITY = 3


class Model:
    """A value for each operator with a value for each of its terms; values are integers. A model never changes."""

    def __init__(self, size, entries, *, other=0):
        if not is_integer(size) or not 1 <= size <= MAX_MODEL:
            raise InvalidNumber(size)
        if not _are_entries(size, entries):
            raise InvalidModel("not a dict from operators with values to values")
        if not is_index(other, size):
            raise InvalidNumber(other)
        self._total = size
        self._other = other
        self._entries = {key: entries[key] for key in sorted(set(entries)) if entries[key] != other}

    @property
    def total(self):
        """The number of values."""
        return self._total

    @property
    def other(self):
        """The value of everything that is no key of the entries."""
        return self._other

    @property
    def entries(self):
        """A new dict of what has another value, with ascending keys."""
        return {key: self._entries[key] for key in self._entries}

    def __call__(self, term, values):
        return self._value(term, values)

    def evaluate(self, term, **values):
        """Return the value of a term for values of its variables."""
        return self._value(term, values)

    def values_of(self, pattern, holes):
        """Return the values of the names of a pattern, for a tuple of values of its holes."""
        check_pattern(pattern)
        if not self._are_values(holes, pattern.holes):
            raise InvalidModel("not a tuple with a value for each hole")
        found = []
        for row in pattern.rows:
            if isinstance(row, int):
                found.append(holes[row - 1])
            else:
                found.append(self._entry(row[0], [found[position] for position in row[1:]]))
        return {name: found[place] for name, place in pattern.places.items()}

    def after(self, program, run, values, *, reads=()):
        """Return the values of the names after a run that begins with some values, and reads others one by one."""
        check_program(program)
        check_run(program, run)
        if not self._are_named_values(values) or sorted(set(values)) != list(program[0]):
            raise InvalidModel("not a dict from exactly the names of the program to values")
        if not self._are_values(reads, values_read(program, run)):
            raise InvalidModel("not a tuple with a value for each value that is read")
        here = {name: values[name] for name in program[0]}
        begin = 0
        for action in actions_of(program, run):
            integers = integers_in([term for _, term in action])
            leaves = {name: here[name] for name in here}
            for k in range(len(integers)):
                leaves[integers[k]] = reads[begin + k]
            begin = begin + len(integers)
            for name, term in action:
                here[name] = self._found(term, leaves)
        return here

    def _value(self, term, values):
        """Return the value of a term without integers, or raise the error of what is passed."""
        if not is_term(term) or integers_in([term]):
            raise InvalidTerm("not a term without integers")
        if not self._are_named_values(values):
            raise InvalidModel("not a dict from names to values")
        missing = sorted(set([step for step in postfix(term) if isinstance(step, str) and step not in values]))
        if missing:
            raise UnknownName(missing[0])
        return self._found(term, values)

    def _found(self, term, leaves):
        """Return the value of a term by the values of its leaves."""
        if not isinstance(term, tuple):
            return leaves[term]
        return self._entry(term[0], [self._found(inner, leaves) for inner in term[1:]])

    def _entry(self, operator, values):
        return self._entries.get((operator, *values), self._other)

    def _are_values(self, value, many):
        """Tell whether a value is a tuple of so many values of this model."""
        return isinstance(value, tuple) and len(value) == many and all([is_index(one, self._total) for one in value])

    def _are_named_values(self, value):
        """Tell whether a value is a dict from names to values of this model."""
        if not isinstance(value, dict):
            return False
        return all([is_name(name) and is_index(value[name], self._total) for name in value])

    def __len__(self):
        return len(self._entries)

    def __eq__(self, other):
        if not isinstance(other, Model):
            return False
        return self._total == other._total and self._other == other._other and self._entries == other._entries

    def __str__(self):
        return f"model of {self._total} values, {len(self._entries)} entries"


def separating_model(pattern, e, f):
    """Return a model and values for the holes of a pattern for which two terms have different values."""
    _check_terms_in(pattern, e, f)
    nodes, spots = evaluated(pattern.rows, pattern.places, (e, f))
    numbers = _numbers_of(nodes, spots)
    return _model_of(nodes, numbers), _values_at(numbers, _places_of_holes(pattern))


def is_separating_model(pattern, e, f, value):
    """Tell whether a value is a model with values for the holes for which two terms have different values."""
    _check_terms_in(pattern, e, f)
    if not isinstance(value, tuple) or len(value) != 2 or not isinstance(value[0], Model):
        return False
    model, holes = value
    if not _are_values_in(model, holes, pattern.holes):
        return False
    values = model.values_of(pattern, holes)
    return model(e, values) != model(f, values)


def failing_model(program, run, e, f, *, entry=None):
    """Return a model, values for the holes at the entry, and values to read, for which two terms differ after a run."""
    start = _start_of_run(program, run, e, f, entry)
    nodes, places, read = traced_run(program, run, start.rows, start.places)
    nodes, spots = evaluated(nodes, places, (e, f))
    numbers = _numbers_of(nodes, spots)
    return _model_of(nodes, numbers), _values_at(numbers, _places_of_holes(start)), _values_at(numbers, read)


def is_failing_model(program, run, e, f, value, *, entry=None):
    """Tell whether a value is a model, values for the holes and values to read, for which two terms differ."""
    start = _start_of_run(program, run, e, f, entry)
    if not isinstance(value, tuple) or len(value) != 3 or not isinstance(value[0], Model):
        return False
    model, holes, reads = value
    if not _are_values_in(model, holes, start.holes) or not _are_values_in(model, reads, values_read(program, run)):
        return False
    values = model.after(program, run, model.values_of(start, holes), reads=reads)
    return model(e, values) != model(f, values)


def _are_entries(size, value):
    """Tell whether a value is a dict from operators with values to values."""
    if not isinstance(value, dict):
        return False
    return all([_is_key(size, key) and is_index(value[key], size) for key in value])


def _is_key(size, value):
    if not isinstance(value, tuple) or not 1 <= len(value) <= MAX_ARITY + 1 or not is_name(value[0]):
        return False
    return all([is_index(one, size) for one in value[1:]])


def _are_values_in(model, value, many):
    """Tell whether a value is a tuple of so many values of a model."""
    return isinstance(value, tuple) and len(value) == many and all([is_index(one, model.total) for one in value])


def _check_terms_in(pattern, e, f):
    check_pattern(pattern)
    check_closed_term(pattern.names, e)
    check_closed_term(pattern.names, f)


def _start_of_run(program, run, e, f, entry):
    """Return the entry pattern for a question about a run, or raise the error of what is passed."""
    check_program(program)
    check_run(program, run)
    check_closed_term(program[0], e)
    check_closed_term(program[0], f)
    start = entry_pattern(program, entry)
    # None of the states on the way may be too great.
    state_after(program, run, entry=start)
    return start


def _numbers_of(nodes, spots):
    """Return a dict from the positions of the parts of two different values to numbers from 0."""
    if spots[0] == spots[1]:
        raise InvalidOperation("both terms have the same value")
    parts = sorted(set(below(nodes, spots)))
    if len(parts) + 1 > MAX_MODEL:
        raise TooLarge(MAX_MODEL)
    return {parts[k]: k for k in range(len(parts))}


def _model_of(nodes, numbers):
    """Return the model in which each part is its number, and everything else is one value more."""
    entries = {}
    for position in numbers:
        row = nodes[position]
        if isinstance(row, tuple) and not is_read(row):
            key = (row[0], *[numbers[inner] for inner in row[1:]])
            entries[key] = numbers[position]
    return Model(len(numbers) + 1, entries, other=len(numbers))


def _places_of_holes(pattern):
    return [position for position, row in enumerate(pattern.rows) if isinstance(row, int)]


def _values_at(numbers, positions):
    """Return the numbers at some positions; what is no part has the last value."""
    return tuple([numbers.get(position, len(numbers)) for position in positions])
