"""Patterns: values over holes for one to ten names."""

from termpaths.base.checks import changed_names, check_closed_term, fits_action
from termpaths.base.rows import (
    evaluated, heights_of, hole_count, integers_in, read_term, rows_beside, shared, sizes_of, with_holes,
)
from termpaths.base.terms import is_name, is_term, postfix
from termpaths.errors import InvalidOperation, InvalidPattern, InvalidTerm, TooLarge, UnknownName
from termpaths.patterns.shapes import acted, joined, matched, merged

MAX_WEIGHT = 500
MAX_NAMES = 10


class Pattern:
    """A value for each of some names; equal holes stand for one value. A pattern never changes."""

    def __init__(self, **values):
        names, rows, spots = _shape_of_values(values)
        self._names = names
        self._rows = rows
        self._spots = spots

    @classmethod
    def of(cls, values):
        """Return the pattern with the values of a dict from names to terms over holes."""
        names, rows, spots = _shape_of_values(values)
        # Values cannot be passed on as keywords, as one of the names may be self.
        made = cls(a=1)
        made._names = names
        made._rows = rows
        made._spots = spots
        return made

    @staticmethod
    def free(first=None, *others):
        """Return the pattern in which each name has a hole of its own."""
        # Without any name the first one is None, and this is as invalid as every other value that is no name.
        names = (first, *others)
        if not all([is_name(name) for name in names]):
            raise InvalidPattern("not at least one name, and only names")
        ordered = sorted(set(names))
        return Pattern.of({ordered[k]: k + 1 for k in range(len(ordered))})

    @property
    def names(self):
        """The names, ascending."""
        return self._names

    @property
    def holes(self):
        """The number of holes."""
        return hole_count(self._rows)

    @property
    def weight(self):
        """The number of different parts of all values."""
        return len(self._rows)

    @property
    def rows(self):
        """The rows of the shared form."""
        return self._rows

    @property
    def places(self):
        """A new dict from the names to the positions of their values."""
        return {name: self._spots[k] for k, name in enumerate(self._names)}

    def size(self, name):
        """Return the size of the value of a name, as it is written."""
        return sizes_of(self._rows)[self._spot(name)]

    def height(self, name):
        """Return the height of the value of a name."""
        return heights_of(self._rows)[self._spot(name)]

    def same(self, e, f):
        """Tell whether two terms over the names have the same value."""
        check_closed_term(self._names, e)
        check_closed_term(self._names, f)
        _, spots = evaluated(self._rows, self.places, (e, f))
        return spots[0] == spots[1]

    def after(self, action):
        """Return the pattern that an action makes of this one."""
        if not fits_action(self._names, action):
            raise InvalidTerm("not an action over the names")
        return moved(self, action)

    def only(self, *names):
        """Return the pattern of some of the names."""
        return self.only_of(names)

    def only_of(self, names):
        """Return the pattern of some of the names, which are a tuple."""
        if not isinstance(names, tuple):
            raise InvalidOperation("the names are not a tuple")
        for name in names:
            self._spot(name)
        if not names:
            raise InvalidOperation("no name is left")
        kept = sorted(set(names))
        return pattern_of(tuple(kept), shared(self._rows, [self._spot(name) for name in kept]))

    def renamed(self, **names):
        """Return the pattern with new names, which are passed for old ones."""
        return self.renamed_by(names)

    def renamed_by(self, names):
        """Return the pattern with new names, by a dict from old ones to new ones."""
        changed = changed_names(self._names, names)
        spots = {changed[name]: self._spot(name) for name in self._names}
        ordered = sorted(set([changed[name] for name in self._names]))
        return pattern_of(tuple(ordered), shared(self._rows, [spots[name] for name in ordered]))

    def beside(self, q):
        """Return the pattern with the names of this one and of another one."""
        check_pattern(q)
        ordered = sorted(set([*self._names, *q._names]))
        if len(ordered) < len(self._names) + len(q._names):
            raise InvalidOperation("a name is in both patterns")
        if len(ordered) > MAX_NAMES:
            raise InvalidOperation("there would be more than ten names")
        mine = self.places
        behind = {name: place + len(self._rows) for name, place in q.places.items()}
        spots = {**mine, **behind}
        rows = rows_beside(self._rows, q._rows)
        return pattern_of(tuple(ordered), shared(rows, [spots[name] for name in ordered]))

    def _spot(self, name):
        """Return the position of the value of a name."""
        if name not in self._names:
            raise UnknownName(name)
        return self.places[name]

    def _is_instance(self, p):
        """Tell whether this pattern is an instance of another one with the same names."""
        return matched(p._rows, p._spots, self._rows, self._spots) is not None

    def __getitem__(self, name):
        return read_term(self._rows, self._spot(name))

    def __iter__(self):
        raise TypeError("a pattern cannot be iterated")

    def __call__(self, term):
        check_closed_term(self._names, term)
        rows, spots = evaluated(self._rows, self.places, (term,))
        return read_term(rows, spots[0])

    def __len__(self):
        return len(self._names)

    def __contains__(self, value):
        return value in self._names

    def __eq__(self, other):
        if not isinstance(other, Pattern):
            return False
        return self._names == other._names and self._rows == other._rows and self._spots == other._spots

    def __str__(self):
        return f"pattern of {len(self._names)} names, weight {len(self._rows)}"

    def __le__(self, other):
        check_same_names((self, other))
        return self._is_instance(other)

    def __lt__(self, other):
        check_same_names((self, other))
        return self._is_instance(other) and self != other

    def __ge__(self, other):
        check_same_names((self, other))
        return other._is_instance(self)

    def __gt__(self, other):
        check_same_names((self, other))
        return other._is_instance(self) and self != other

    def __or__(self, other):
        check_same_names((self, other))
        shape = joined(self._rows, self._spots, other._rows, other._spots, MAX_WEIGHT)
        if shape is None:
            raise TooLarge(MAX_WEIGHT)
        return pattern_of(self._names, shape)

    def __ror__(self, other):
        raise InvalidPattern("not a pattern")

    def __and__(self, other):
        check_same_names((self, other))
        spots = [place + len(self._rows) for place in other._spots]
        rows = rows_beside(self._rows, other._rows)
        shape = merged(rows, self._spots, list(zip(self._spots, spots)))
        return None if shape is None else pattern_of(self._names, shape)

    def __rand__(self, other):
        raise InvalidPattern("not a pattern")


def are_names(value):
    """Tell whether a value is an ascending tuple of one to ten names."""
    if not isinstance(value, tuple) or not 1 <= len(value) <= MAX_NAMES:
        return False
    return all([is_name(name) for name in value]) and list(value) == sorted(set(value))


def pattern_of(names, shape):
    """Return the pattern of ascending names with the rows and the positions of a shape."""
    rows, spots = shape
    if len(rows) > MAX_WEIGHT:
        raise TooLarge(MAX_WEIGHT)
    # The values may be too great for terms, so the pattern cannot be made of them.
    made = Pattern(a=1)
    made._names = names
    made._rows = rows
    made._spots = spots
    return made


def shape_of(pattern):
    """Return the rows and the positions of the values of a pattern."""
    places = pattern.places
    return pattern.rows, tuple([places[name] for name in pattern.names])


def moved(pattern, action):
    """Return the pattern that an action over its names makes of a pattern."""
    return pattern_of(pattern.names, acted(pattern.names, shape_of(pattern), action))


def check_pattern(value):
    """Raise InvalidPattern for what is not a pattern."""
    if not isinstance(value, Pattern):
        raise InvalidPattern("not a pattern")


def check_same_names(patterns):
    """Raise an error for what is not a tuple of patterns, or if their names are not the same."""
    for pattern in patterns:
        check_pattern(pattern)
    for pattern in patterns:
        if pattern.names != patterns[0].names:
            raise InvalidOperation("the patterns have other names")


def _shape_of_values(values):
    """Return the names, the rows and the positions of a dict from names to terms over holes."""
    if not isinstance(values, dict) or not 1 <= len(values) <= MAX_NAMES:
        raise InvalidPattern("not a dict with one to ten names")
    for name in values:
        if not is_name(name) or not is_term(values[name]):
            raise InvalidPattern("not a name, or not a term")
        if len([step for step in postfix(values[name]) if isinstance(step, str)]) > 0:
            raise InvalidPattern("a value has a variable")
    names = sorted(set([str(name) for name in values]))
    terms = [values[name] for name in names]
    rows, places = with_holes((), integers_in(terms))
    rows, spots = evaluated(rows, places, terms)
    rows, spots = shared(rows, spots)
    if len(rows) > MAX_WEIGHT:
        raise TooLarge(MAX_WEIGHT)
    return tuple(names), rows, spots
