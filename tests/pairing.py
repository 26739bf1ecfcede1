"""Pairs of programs done by hand: runs one by one, for the tests."""

from tests.hand import all_runs, free_values, integers, random_action, random_program, valued
from tests.reference import rng
from termpaths.programs.programs import make_program

SHORT = make_program(("x", "y", "z"), (0, (("x", ("f", "z")), ("y", "z")), 1), (0, (), 2), (2, (("x", ("f", "y")),), 1))
SHORT_LABELS = (0, None, 1)
WRONG_LABELS = (
    None, (), [0, None, 1], (0, None), (0, None, 1, 1), (0, None, 2), (0, None, -1), (0, None, True), (0, False, 1),
    (0, (), 1), (0, "1", 1), {0: 0}, "0n1", 3, (0, [0], 1), (0, None, 10 ** 39),
)


def path_by_hand(program, path, point=0):
    """Return the point to which a path leads, or None if it is none."""
    for index in path:
        if program[2][index][0] != point:
            return None
        point = program[2][index][2]
    return point


def labels_on(labels, run):
    return tuple(labels[k] for k in run if labels[k] is not None)


def runs_with(first, second, labels, longest):
    """Return triples (run, u, v): a run of the second program that goes with a run of the first one to u."""
    found = []
    for run, v in all_runs(second, longest):
        u = path_by_hand(first, labels_on(labels, run))
        if u is not None:
            found.append((run, u, v))
    return found


def ahead_by_hand(second, labels, point):
    """Return the labels to which paths without labels lead from a point."""
    points = {point}
    for _ in second[2]:
        points |= {v for k, (u, _, v) in enumerate(second[2]) if u in points and labels[k] is None}
    return {labels[k] for k, (u, _, v) in enumerate(second[2]) if u in points and labels[k] is not None}


def lost_by_hand(first, second, labels, run):
    """Tell whether a value is a run of the second program whose labels are no run of the first one."""
    return path_by_hand(second, run) is not None and path_by_hand(first, labels_on(labels, run)) is None


def stuck_by_hand(first, second, labels, run, index):
    """Tell whether an edge of the first program cannot be followed behind a run of the second one."""
    end = path_by_hand(second, run)
    if end is None or run and labels[run[-1]] is None:
        return False
    u = path_by_hand(first, labels_on(labels, run))
    return u is not None and first[2][index][0] == u and index not in ahead_by_hand(second, labels, end)


def follows_by_hand(first, second, labels, longest):
    """Tell whether no run of at most so many edges shows that the second program does not follow the first one."""
    for run, _ in all_runs(second, longest):
        if lost_by_hand(first, second, labels, run):
            return False
        if any(stuck_by_hand(first, second, labels, run, k) for k in range(len(first[2]))):
            return False
    return True


def unrolled(seed, program, copies=2, ways=2):
    """Return a second program that follows a program: its points are copied, and edges without label are put in."""
    one = rng(seed)
    names, size, edges = program
    made = []
    labels = []
    points = size * copies
    for index, (u, action, v) in enumerate(edges):
        for copy in range(copies):
            first, last = u * copies + copy, v * copies + one.randrange(copies)
            kind = one.randrange(4)
            if kind == 0 and ways > 0:
                ways -= 1
                made += [(first, (), points), (points, action, last)]
                labels += [None, index]
                points += 1
            else:
                made.append((first, action, last))
                labels.append(index)
                if kind == 1 and ways > 0:
                    made.append((first, action, last))
                    labels.append(index)
                    ways -= 1
    order = list(range(len(made)))
    one.shuffle(order)
    return make_program(names, *[made[k] for k in order], size=points), tuple(labels[k] for k in order)


def random_pair(seed, follow=True, reads=True):
    """Return a program, a second one with other actions, and labels."""
    one = rng(seed)
    first = random_program(seed, names=("x", "y"), points=2 + seed % 2, edges=3, reads=reads)
    second, labels = unrolled(seed, first)
    edges = []
    for k, (u, action, v) in enumerate(second[2]):
        kind = one.randrange(5)
        edges.append((u, random_action(one, ("x", "y"), 1, reads) if kind == 0 else action, v))
    second = (second[0], second[1], tuple(edges))
    if not follow:
        labels = list(labels)
        for _ in range(one.randrange(1, 3)):
            labels[one.randrange(len(labels))] = one.choice((None, *range(len(first[2]))))
        labels = tuple(labels)
    return first, second, labels


def values_side_by_side(first, second, labels, run, values=None):
    """Return the values of both programs behind a run of the second one; equal integers are read at once."""
    left = free_values(first) if values is None else dict(values)
    fresh = [20000]
    right = {}
    for name in second[0]:
        right[name] = left[name] if name in left else fresh[0]
        fresh[0] += 1
    for index in run:
        read = {}
        ours = second[2][index][1]
        theirs = () if labels[index] is None else first[2][labels[index]][1]
        for integer in sorted({one for action in (ours, theirs) for _, term in action for one in integers(term)}):
            read[integer] = fresh[0]
            fresh[0] += 1
        left = {**left, **{name: valued(term, {**left, **read}) for name, term in theirs}}
        right = {**right, **{name: valued(term, {**right, **read}) for name, term in ours}}
    return left, right


