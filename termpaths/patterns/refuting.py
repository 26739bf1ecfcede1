"""Refutations: lines that show that some equalities have no solution."""

from termpaths.base.rows import below, evaluated, same_sign, with_holes


class Proof:
    """Lines about the positions of rows, and classes of positions that are equal by these lines.

    Each class is a tree: links tells for a position the position above it and the line that says so.
    """

    def __init__(self, rows):
        self.parts = rows
        self.lines = []
        self.links = {}
        self.totals = [1] * len(rows)
        self.signs = list(range(len(rows)))

    def add_line(self, first, second, reason):
        """Add a line and return its number."""
        self.lines.append((first, second, reason))
        return len(self.lines) - 1

    def close(self):
        """Join the classes as the lines demand, and return the number of a line of a clash, or None."""
        todo = list(reversed(range(len(self.lines))))
        while todo:
            line = self.unite(todo.pop())
            if line is None:
                continue
            first, second, _ = self.lines[line]
            row = self.parts[first]
            other = self.parts[second]
            if not same_sign(row, other):
                return line
            for index in range(len(row) - 1):
                if row[index + 1] != other[index + 1]:
                    todo.append(self.add_line(row[index + 1], other[index + 1], ("part", line, index)))
        return None

    def unite(self, line):
        """Join the classes of both sides of a line.

        If both have an operator, return the number of a line of two positions with these.
        """
        first, second, _ = self.lines[line]
        if self.head(first) == self.head(second):
            return None
        if self.totals[self.head(first)] < self.totals[self.head(second)]:
            line = self.turned(line)
            first, second, _ = self.lines[line]
        upper = self.head(first)
        lower = self.head(second)
        way = [self.turned(step) for step in reversed(list(self.way_up(second)))]
        self.links[lower] = (upper, self.chained([*way, self.turned(line), *self.way_up(first)]))
        self.totals[upper] = self.totals[upper] + self.totals[lower]
        sign = self.signs[upper]
        other = self.signs[lower]
        if isinstance(self.parts[sign], int):
            self.signs[upper] = other
        if isinstance(self.parts[sign], int) or isinstance(self.parts[other], int):
            return None
        return self.line_between(sign, other)

    def head(self, position):
        """Return the position that stands for the class of a position."""
        while position in self.links:
            position = self.links[position][0]
        return position

    def way_up(self, position):
        """Return the numbers of the lines from a position to the head of its class."""
        way = []
        while position in self.links:
            position, line = self.links[position]
            way.append(line)
        return way

    def turned(self, line):
        """Return the number of a line that is this one the other way round; add it if it is needed."""
        first, second, reason = self.lines[line]
        if reason[0] == "turn":
            return reason[1]
        return self.add_line(second, first, ("turn", line))

    def chained(self, way):
        """Add what follows from some lines, each of which begins where the one before it ends."""
        result = way[0]
        for line in way[1:]:
            result = self.add_line(self.lines[result][0], self.lines[line][1], ("chain", result, line))
        return result

    def line_between(self, first, second):
        """Add a line of two different positions of one class, and return its number."""
        back = [self.turned(line) for line in reversed(list(self.way_up(second)))]
        return self.chained([*self.way_up(first), *back])


def refutation(names, equalities):
    """Return the lines and the end of a refutation of equalities over some names that have no solution."""
    terms = [term for pair in equalities for term in pair]
    rows, _ = with_holes((), list(range(len(names))))
    rows, spots = evaluated(rows, {name: k for k, name in enumerate(names)}, terms)
    proof = Proof(rows)
    for k in range(len(equalities)):
        proof.add_line(spots[2 * k], spots[2 * k + 1], ("given", k))
    clash = proof.close()
    ends = _circle(proof, len(names)) if clash is None else (clash,)
    lines, numbers = _written(_terms_of(names, rows), proof.lines, ends)
    if clash is None:
        return lines, ("within", tuple([numbers[line] for line in ends]))
    return lines, ("clash", numbers[clash])


def _circle(proof, many):
    """Return the numbers of lines in which the first holes are within one another, in a circle."""
    inside = {}
    for hole in range(many):
        sign = proof.signs[proof.head(hole)]
        inside[hole] = [] if isinstance(proof.parts[sign], int) else _holes_below(proof.parts, sign)
    left = list(range(many))
    # What contains no hole that is left cannot be in a circle; what stays always leads on to what stays.
    for _ in range(many):
        left = [hole for hole in left if _first_in(inside[hole], left) is not None]
    way = [left[0]]
    following = _first_in(inside[left[0]], left)
    while following not in way:
        way.append(following)
        following = _first_in(inside[following], left)
    circle = way[way.index(following):]
    return tuple([proof.line_between(hole, proof.signs[proof.head(hole)]) for hole in circle])


def _holes_below(rows, position):
    """Return the positions of the holes in the value at a position."""
    return [place for place in below(rows, [position]) if isinstance(rows[place], int)]


def _first_in(holes, left):
    """Return the first one of some holes that is left, or None."""
    for hole in holes:
        if hole in left:
            return hole
    return None


def _terms_of(names, rows):
    """Return the term of each row; the first rows are the holes of the names."""
    terms = []
    for position, row in enumerate(rows):
        if isinstance(row, tuple):
            terms.append((row[0], *[terms[inner] for inner in row[1:]]))
        else:
            terms.append(names[position])
    return terms


def _written(terms, lines, ends):
    """Return the lines that some lines need, with terms for positions, and a dict from old numbers to new ones."""
    needed = {line: True for line in ends}
    for line in reversed(range(len(lines))):
        if line in needed:
            for earlier in _earlier(lines[line][2]):
                needed[earlier] = True
    numbers = {}
    written = []
    for line in sorted(set(needed)):
        first, second, reason = lines[line]
        numbers[line] = len(written)
        written.append((terms[first], terms[second], _renumbered(reason, numbers)))
    return tuple(written), numbers


def _earlier(reason):
    """Return the numbers of the lines that a reason names."""
    if reason[0] == "given":
        return ()
    return reason[1:] if reason[0] == "chain" else reason[1:2]


def _renumbered(reason, numbers):
    if reason[0] == "given":
        return reason
    if reason[0] == "chain":
        return ("chain", numbers[reason[1]], numbers[reason[2]])
    return (reason[0], numbers[reason[1]], *reason[2:])
