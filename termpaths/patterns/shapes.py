"""Matching, joining and merging of rows, for patterns and for what is made of them.

A shape is a pair of the rows of a shared form and the positions of the values, for names in ascending order.
"""

from termpaths.base.rows import evaluated, integers_in, same_sign, shared, with_holes


def free_shape(many):
    """Return the shape in which each of so many names has a hole of its own."""
    return tuple([k + 1 for k in range(many)]), tuple(list(range(many)))


def acted(names, shape, action):
    """Return the shape that an action over these names makes of a shape."""
    if not action:
        return shape
    rows, spots = shape
    terms = [term for _, term in action]
    made, fresh = with_holes(rows, integers_in(terms))
    places = {name: spots[k] for k, name in enumerate(names)}
    made, found = evaluated(made, {**places, **fresh}, terms)
    for k in range(len(action)):
        places[action[k][0]] = found[k]
    return shared(made, [places[name] for name in names])


def is_instance(shape, other):
    """Tell whether the other shape is an instance of a shape."""
    return matched(shape[0], shape[1], other[0], other[1]) is not None


def matched(rows, spots, others, other_spots):
    """Return a dict from the positions of rows to those of the parts of others that are put for them.

    Return None if the values at the other spots are not made by putting parts for the holes of the rows.
    """
    found = {}
    todo = list(zip(spots, other_spots))
    while todo:
        place, other = todo.pop()
        if place in found:
            if found[place] != other:
                return None
            continue
        found[place] = other
        row = rows[place]
        if isinstance(row, tuple):
            if not same_sign(row, others[other]):
                return None
            todo.extend(list(zip(row[1:], others[other][1:])))
    return found


def joined(rows, spots, others, other_spots, limit):
    """Return the shape of the most special values of which both sides are instances.

    Return None if they have more different parts than the limit. Each pair of positions gives a part of its own.
    """
    pairs = []
    numbers = {}
    nodes = []
    roots = []
    for pair in list(zip(spots, other_spots)):
        if pair not in numbers:
            numbers[pair] = len(pairs)
            pairs.append(pair)
        roots.append(numbers[pair])
    while len(nodes) < len(pairs):
        if len(pairs) > limit:
            return None
        row = rows[pairs[len(nodes)][0]]
        other = others[pairs[len(nodes)][1]]
        if not same_sign(row, other):
            nodes.append(len(nodes))
            continue
        inner = list(zip(row[1:], other[1:]))
        for pair in inner:
            if pair not in numbers:
                numbers[pair] = len(pairs)
                pairs.append(pair)
        nodes.append((row[0], *[numbers[one] for one in inner]))
    return shared(nodes, roots)


def merged(nodes, roots, pairs):
    """Return the shape of the most general values of the roots for which both sides of each pair are equal.

    Return None if there are no such values.
    """
    signs = _signs_of_classes(nodes, pairs)
    if signs is None:
        return None
    made = []
    for node in nodes:
        made.append((node[0], *[signs[inner] for inner in node[1:]]) if isinstance(node, tuple) else node)
    return shared(made, [signs[root] for root in roots])


def _signs_of_classes(nodes, pairs):
    """Return for each node the one that stands for its class, with an operator if the class has one.

    The classes are the smallest ones in which both sides of each pair are together, and the terms of what is
    together, too. Return None if a class has different operators.
    """
    heads = list(range(len(nodes)))
    sizes = [1] * len(nodes)
    signs = list(range(len(nodes)))
    todo = list(pairs)
    while todo:
        first, second = todo.pop()
        first = _head(heads, first)
        second = _head(heads, second)
        if first == second:
            continue
        # The smaller class goes below the greater one, so that all ways to a head stay short.
        if sizes[first] < sizes[second]:
            first, second = second, first
        node = nodes[signs[first]]
        other = nodes[signs[second]]
        if isinstance(node, tuple) and isinstance(other, tuple):
            if not same_sign(node, other):
                return None
            todo.extend(list(zip(node[1:], other[1:])))
        elif isinstance(other, tuple):
            signs[first] = signs[second]
        heads[second] = first
        sizes[first] = sizes[first] + sizes[second]
    return [signs[_head(heads, k)] for k in range(len(nodes))]


def _head(heads, node):
    while heads[node] != node:
        node = heads[node]
    return node
