"""Graphs on a few values, their sides and their odd walks."""

from templates.checks import check_size, is_integer, is_row
from templates.errors import BadGraph
from templates.relations import all_rows


def graph(size, edges):
    """The template whose one relation has each edge in both directions."""
    _check_graph(size, edges)
    return (size, ((2, tuple(_directed(edges))),))


def _check_graph(size, edges):
    """Raises the errors of a size and of the edges of a graph."""
    check_size(size)
    if not isinstance(edges, tuple) or not all(_is_edge(size, edge) for edge in edges):
        raise BadGraph("edges are a tuple of pairs (a, b) of values, a at most b")
    if not all([edge < following for edge, following in zip(edges, edges[1:])]):
        raise BadGraph("edges are different and stand in ascending order")


def _is_edge(size, value):
    return is_row(size, 2, value) and value[0] <= value[1]


def _directed(edges):
    """The ascending list of the edges in both directions."""
    return sorted(set(list(edges) + [(b, a) for a, b in edges]))


def two_sides(size, edges):
    """A side, 0 or 1, for each value, such that edges join different ones; None if there are no such sides."""
    _check_graph(size, edges)
    # In the least sides the least value of each connected part has the side 0: others could be exchanged there.
    for sides in all_rows(2, size):
        if all([sides[a] != sides[b] for a, b in edges]):
            return sides
    return None


def odd_walk(size, edges):
    """The least of the shortest closed walks with an odd number of steps, None if there is none."""
    _check_graph(size, edges)
    steps = _directed(edges)
    # A shortest one meets no value twice but at its ends, so that it has at most as many steps as there are values.
    for length in range(1, size + 1, 2):
        for values in all_rows(size, length):
            if _is_walk(steps, values + values[:1]):
                return values + values[:1]
    return None


def _is_walk(steps, walk):
    """Whether any two neighbors in a tuple of values are a step."""
    return all([step in steps for step in zip(walk, walk[1:])])


def shows_odd_walk(size, edges, value):
    """Whether a value is a closed walk with an odd number of steps."""
    _check_graph(size, edges)
    if not isinstance(value, tuple) or len(value) == 0 or len(value) % 2 != 0:
        return False
    if not all(is_integer(entry, 0, size - 1) for entry in value):
        return False
    return value[0] == value[-1] and _is_walk(_directed(edges), value)
