"""Relations, and the relations that are made of them."""

from templates.checks import MOST_PLACES, check_places, check_relation, check_relation_arity, check_size
from templates.errors import BadArity


def all_rows(size, arity):
    """The ascending list of all tuples of so many values."""
    rows = [()]
    for _ in range(arity):
        rows = [row + (value,) for row in rows for value in range(size)]
    return rows


def full(size, arity):
    """The relation that has all rows."""
    check_size(size)
    check_relation_arity(arity)
    return (arity, tuple(all_rows(size, arity)))


def meet(size, one, other):
    """The relation of the rows that both relations have."""
    check_size(size)
    check_relation(size, one)
    check_relation(size, other)
    if one[0] != other[0]:
        raise BadArity("the arities differ")
    shared = set(other[1])
    return (one[0], tuple([row for row in one[1] if row in shared]))


def product(size, one, other):
    """The relation of the rows of one, each followed by a row of other."""
    check_size(size)
    check_relation(size, one)
    check_relation(size, other)
    arity = one[0] + other[0]
    if arity > MOST_PLACES:
        raise BadArity("the arities add up to more than 4")
    return (arity, tuple([front + back for front in one[1] for back in other[1]]))


def picked(size, relation, places):
    """The relation of the entries that the rows have at the places."""
    check_size(size)
    check_relation(size, relation)
    arity, rows = relation
    check_places(places, 1, MOST_PLACES, arity)
    parts = [tuple([row[place] for place in places]) for row in rows]
    return (len(places), tuple(sorted(set(parts))))


def glued(size, relation, places):
    """The relation of the rows whose entries at the two places are equal."""
    check_size(size)
    check_relation(size, relation)
    arity, rows = relation
    check_places(places, 2, 2, arity)
    first, second = places
    return (arity, tuple([row for row in rows if row[first] == row[second]]))
