"""Common patterns: the most special pattern of which some patterns are instances."""

from termpaths.base.rows import same_sign
from termpaths.errors import InvalidPattern
from termpaths.patterns.matching import match
from termpaths.patterns.patterns import Pattern, check_same_names


def common(first, *others):
    """Return the common pattern of one or more patterns."""
    return common_of((first, *others))


def common_of(patterns):
    """Return the common pattern of a tuple of at least one pattern."""
    _check_patterns(patterns)
    result = patterns[0]
    for pattern in patterns[1:]:
        result = result | pattern
    return result


def is_common(value, *patterns):
    """Tell whether a value is the common pattern of one or more patterns."""
    return is_common_of(value, patterns)


def is_common_of(value, patterns):
    """Tell whether a value is the common pattern of a tuple of at least one pattern."""
    _check_patterns(patterns)
    if not isinstance(value, Pattern) or value.names != patterns[0].names:
        return False
    # The common pattern is not made here: it may be too great on the way to a smaller one.
    matches = [match(value, pattern) for pattern in patterns]
    if None in matches:
        return False
    parts = [tuple([found[hole + 1] for found in matches]) for hole in range(value.holes)]
    if len(set(parts)) < len(parts):
        return False
    return not any([_have_one_operator(patterns, positions) for positions in parts])


def differences(p, q):
    """Return a dict from the holes of p | q to the pairs of positions of what is put for them, in p and in q."""
    check_same_names((p, q))
    joint = p | q
    first = match(joint, p)
    second = match(joint, q)
    return {hole: (first[hole], second[hole]) for hole in first}


def _check_patterns(patterns):
    if not isinstance(patterns, tuple) or not patterns:
        raise InvalidPattern("not a tuple of at least one pattern")
    check_same_names(patterns)


def _have_one_operator(patterns, positions):
    """Tell whether each pattern has the same operator at its position."""
    rows = [pattern.rows[positions[k]] for k, pattern in enumerate(patterns)]
    return all([same_sign(rows[0], row) for row in rows])
