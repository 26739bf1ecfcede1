"""Common patterns: the most special pattern of which some patterns are instances."""

from termpaths.errors import InvalidPattern
from termpaths.patterns.matching import match
from termpaths.patterns.patterns import Pattern, check_same_names


def common(first, *others):
    """Return the common pattern of one or more patterns."""
    return common_of((first, *others))


def common_of(patterns):
    """Return the common pattern of a tuple of at least one pattern."""
    _check_patterns(patterns)
    result = patterns[0]
    for pattern in patterns[1:]:
        result = result | pattern
    return result


def is_common(value, *patterns):
    """Tell whether a value is the common pattern of one or more patterns."""
    return is_common_of(value, patterns)


def is_common_of(value, patterns):
    """Tell whether a value is the common pattern of a tuple of at least one pattern."""
    _check_patterns(patterns)
    if not isinstance(value, Pattern) or value.names != patterns[0].names:
        return False
    # The common pattern is not made here: it may be too great on the way to a smaller one.
    parts = {hole + 1: [] for hole in range(value.holes)}
    for pattern in patterns:
        found = match(value, pattern)
        if found is None:
            return False
        for hole in parts:
            parts[hole].append(found[hole])
    if len(set([tuple(parts[hole]) for hole in parts])) < len(parts):
        return False
    for hole in parts:
        if _have_one_operator([pattern.rows[parts[hole][k]] for k, pattern in enumerate(patterns)]):
            return False
    return True


def differences(p, q):
    """Return a dict from the holes of p | q to the pairs of positions of what is put for them, in p and in q."""
    check_same_names((p, q))
    joint = p | q
    first = match(joint, p)
    second = match(joint, q)
    return {hole: (first[hole], second[hole]) for hole in first}


def _check_patterns(patterns):
    if not isinstance(patterns, tuple) or not patterns:
        raise InvalidPattern("not a tuple of at least one pattern")
    check_same_names(patterns)


def _have_one_operator(rows):
    if len([row for row in rows if isinstance(row, int)]) > 0:
        return False
    return len(set([(row[0], len(row)) for row in rows])) == 1
