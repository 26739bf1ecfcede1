"""Programs done by hand: runs one by one, and values as plain terms, for the tests."""

from tests.reference import joint, matching, numbered, random_term, rng
from termpaths.patterns.patterns import Pattern
from termpaths.programs.programs import make_program

LOOP = make_program(("x", "y"), (0, (("x", ("a",)), ("y", ("f", ("a",)))), 1),
                    (1, (("x", ("f", "x")), ("y", ("f", "y"))), 1))
FORK = make_program(("x", "y", "z"), (0, (("x", ("f", "z")), ("y", "z")), 1), (0, (("x", ("f", "y")),), 1))
TURN = make_program(("x", "y", "z"), (0, (("x", "y"), ("y", "z"), ("z", "x")), 0), (0, (), 1))
NAMES = ("x", "y", "z")


def free_values(program):
    """Return values in which each name has a hole of its own."""
    return {name: k + 1 for k, name in enumerate(program[0])}


def valued(term, values):
    """Return a term with the values of its leaves, all put at once."""
    if isinstance(term, tuple):
        return (term[0],) + tuple(valued(inner, values) for inner in term[1:])
    return values[term]


def integers(term):
    """Return the integers of a term."""
    if isinstance(term, tuple):
        return {integer for inner in term[1:] for integer in integers(inner)}
    return {term} if isinstance(term, int) else set()


def acted_by_hand(values, action, fresh):
    """Return the values behind an action; the list fresh has the next integer that nothing has."""
    read = {}
    for integer in sorted({one for _, term in action for one in integers(term)}):
        read[integer] = fresh[0]
        fresh[0] += 1
    made = dict(values)
    for name, term in action:
        made[name] = valued(term, {**values, **read})
    return made


def values_after(program, run, values=None):
    """Return the values behind a run, not numbered."""
    values = free_values(program) if values is None else values
    fresh = [10000]
    for index in run:
        values = acted_by_hand(values, program[2][index][1], fresh)
    return values


def all_runs(program, longest):
    """Return all runs of at most so many edges with the points to which they lead, by length and then ascending."""
    found = [((), 0)]
    last = found
    for _ in range(longest):
        last = [(run + (index,), edge[2]) for run, point in last for index, edge in enumerate(program[2]) if edge[0] == point]
        found = found + last
    return found


def rounds_by_hand(program, longest, values=None):
    """Return the tables of rounds 0 to longest, as dicts from points to values."""
    runs = all_runs(program, longest)
    tables = []
    for k in range(longest + 1):
        states = {}
        for run, point in runs:
            if len(run) <= k:
                states.setdefault(point, []).append(values_after(program, run, values))
        tables.append({point: joint(*states[point]) for point in sorted(states)})
    return tables


def fails_by_hand(program, run, e, f, values=None):
    """Tell whether two terms have different values behind a run."""
    found = values_after(program, run, values)
    return valued(e, found) != valued(f, found)


def misfits_by_hand(program, run, shape, values=None):
    """Tell whether the values behind a run are no instance of the values of a shape."""
    found = values_after(program, run, values)
    return matching(shape, {name: found[name] for name in shape}) is None


def random_action(one, names, height, reads=True):
    """Return an action over some of the names."""
    leaves = list(names) * 3 + ([1, 2] if reads else [])
    changed = [name for name in names if one.randrange(2)]
    return tuple((name, random_term(one, leaves, one.randrange(height + 1))) for name in changed)


def random_program(seed, names=NAMES, points=3, edges=5, height=1, reads=True):
    """Return a program of which most points are reached."""
    one = rng(seed)
    made = []
    for k in range(1, points):
        made.append((one.randrange(k), random_action(one, names, height, reads), k))
    while len(made) < edges:
        made.append((one.randrange(points), random_action(one, names, height, reads), one.randrange(points)))
    one.shuffle(made)
    return make_program(names, *made, size=points)


def pattern(values):
    """Return the pattern of values with holes of any numbers, which are small enough for terms."""
    return Pattern.of(numbered(values))


def form(p):
    """Return the rows and the places of a pattern, to be compared with the shared form of values of any size."""
    return p.rows, p.places


def forms(table):
    """Return a dict from points to the rows and places of the patterns of a table."""
    return {point: form(table[point]) for point in table}
