"""Slow and plain ways to find the same answers, and values of all kinds, for the tests."""

import functools
import random

from termpaths.patterns.patterns import Pattern

# Values of every kind that may be passed for anything, none of which is a term, a name, a pattern or a program.
STRANGE = (
    None, True, False, 0, -1, 501, 10 ** 39, "", "X", "a b", "ninechars", "a1", (), [], {}, [1], {"x": 1}, {1: 2},
    ("f", "X"), ("f", 0), ("f", True), ("f", None), ("f", ["x"]), ("F", "x"), (1, "x"), ("f", "x", "x", "x", "x"),
    ((), ()), (None,), ["f", "x"], (("x", "y"),), "x\n", "\u00e9", Pattern(x=1), (Pattern(x=1),), {"x": Pattern(x=1)},
)


def nested(depth):
    """Return a value that is nested deeper than a term may be."""
    value = "x"
    for _ in range(depth):
        value = ("f", value)
    return value


def tall(height, leaf="x"):
    """Return a term of this height, one larger in size."""
    value = leaf
    for _ in range(height):
        value = ("s", value)
    return value


def wide(size, leaf="x"):
    """Return a term of this size and a small height."""
    if size == 1:
        return leaf
    many = min(3, size - 1)
    counts = [(size - 1) // many + (1 if k < (size - 1) % many else 0) for k in range(many)]
    return ("w",) + tuple(wide(count, leaf) for count in counts)


def letters(number):
    """Return a name for a number."""
    name = ""
    while True:
        name += "abcdefghij"[number % 10]
        number //= 10
        if number == 0:
            return name


def different(count, counter):
    """Return a term with this number of parts, all different and different from those of other calls."""
    counter[0] += 1
    operator = "q" + letters(counter[0])
    if count == 1:
        return (operator,)
    many = min(3, count - 1)
    counts = [(count - 1) // many + (1 if k < (count - 1) % many else 0) for k in range(many)]
    return (operator,) + tuple(different(one, counter) for one in counts)


def stepped(pattern, action, times):
    """Return the pattern after an action that is done several times."""
    for _ in range(times):
        pattern = pattern.after(action)
    return pattern


def powers(**counts):
    """Return the pattern in which each name has the operator s so many times over one hole for all names."""
    return made_powers(tuple(sorted(counts.items())))


@functools.cache
def made_powers(counted):
    counts = dict(counted)
    pattern = Pattern(**{name: 1 for name in counts})
    for name, count in counts.items():
        pattern = stepped(pattern, ((name, ("s", name)),), count)
    return pattern


def random_term(rng, leaves, height):
    kind = rng.randrange(5 if height else 2)
    if kind < 2:
        return rng.choice(leaves) if leaves and rng.randrange(8) else (rng.choice("ab"),)
    operator, many = rng.choice((("f", 1), ("g", 2), ("h", 3), ("f", 2), ("s", 1)))
    return (operator,) + tuple(random_term(rng, leaves, height - 1) for _ in range(many))


def random_values(rng, names, holes, height):
    return {name: random_term(rng, list(range(1, holes + 1)), rng.randrange(height + 1)) for name in names}


def instance_values(rng, values, holes, height):
    """Return values in which a term is put for each hole."""
    put = {}
    return {name: replaced_holes(rng, value, put, holes, height) for name, value in values.items()}


def replaced_holes(rng, value, put, holes, height):
    if isinstance(value, int):
        if value not in put:
            put[value] = random_term(rng, list(range(1, holes + 1)), height)
        return put[value]
    return (value[0],) + tuple(replaced_holes(rng, term, put, holes, height) for term in value[1:])


def parts(value):
    """Return the different parts of a value in the order of the shared form."""
    found = []
    if isinstance(value, tuple):
        for term in value[1:]:
            for part in parts(term):
                if part not in found:
                    found.append(part)
    if value not in found:
        found.append(value)
    return found


def numbered(values):
    """Return the values with their holes numbered by first occurrence."""
    numbers = {}

    def renumber(value):
        if isinstance(value, int):
            return numbers.setdefault(value, len(numbers) + 1)
        return (value[0],) + tuple(renumber(term) for term in value[1:])

    return {name: renumber(values[name]) for name in sorted(values)}


def shared_form(values):
    """Return the rows and the places of values, by the words of the document."""
    found = []
    values = numbered(values)
    for name in sorted(values):
        for part in parts(values[name]):
            if part not in found:
                found.append(part)
    rows = []
    for part in found:
        rows.append(part if isinstance(part, int) else (part[0],) + tuple(found.index(term) for term in part[1:]))
    return tuple(rows), {name: found.index(values[name]) for name in sorted(values)}


def signed_alike(one, other):
    return isinstance(one, tuple) and isinstance(other, tuple) and one[0] == other[0] and len(one) == len(other)


def matching(values, others):
    """Return what is put for the holes of some values, or None."""
    put = {}

    def match(value, other):
        if isinstance(value, int):
            return put.setdefault(value, other) == other
        return signed_alike(value, other) and all(match(a, b) for a, b in zip(value[1:], other[1:]))

    return put if all(match(values[name], others[name]) for name in values) else None


def joint(*several):
    """Return the common values of some dicts of values."""
    holes = {}

    def join(terms):
        if all(signed_alike(terms[0], term) for term in terms):
            return (terms[0][0],) + tuple(join(inner) for inner in zip(*[term[1:] for term in terms]))
        return holes.setdefault(terms, len(holes) + 1)

    return numbered({name: join(tuple(values[name] for values in several)) for name in sorted(several[0])})


def unified(pairs):
    """Return what is put for leaves so that both sides of all pairs are equal, or None, by the textbook.

    Holes are integers and names are strings; both can be put for.
    """
    put = {}

    def walk(term):
        while not isinstance(term, tuple) and term in put:
            term = put[term]
        return term

    def inside(leaf, term):
        term = walk(term)
        if not isinstance(term, tuple):
            return term == leaf
        return any(inside(leaf, inner) for inner in term[1:])

    todo = list(pairs)
    while todo:
        e, f = todo.pop()
        e, f = walk(e), walk(f)
        if e == f:
            continue
        if not isinstance(e, tuple):
            if inside(e, f):
                return None
            put[e] = f
        elif not isinstance(f, tuple):
            todo.append((f, e))
        elif not signed_alike(e, f):
            return None
        else:
            todo.extend(zip(e[1:], f[1:]))
    return put


def deep(term, put):
    """Return a term with everything put for its leaves."""
    if isinstance(term, tuple):
        return (term[0],) + tuple(deep(inner, put) for inner in term[1:])
    return deep(put[term], put) if term in put else term


def holed(terms):
    """Return a dict of terms in which all leaves that are left are holes."""
    numbers = {}

    def change(term):
        if isinstance(term, tuple):
            return (term[0],) + tuple(change(inner) for inner in term[1:])
        return numbers.setdefault(term, len(numbers) + 1)

    return {name: change(terms[name]) for name in sorted(terms)}


def written(value):
    """Return the size of a value as it is written."""
    return 1 + sum(written(term) for term in value[1:]) if isinstance(value, tuple) else 1


def rng(seed):
    return random.Random(seed)
