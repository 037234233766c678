"""Relations that are told by their pairs, and the pairs of the values of two variables."""

from templates.checks import check_relation, check_size
from templates.pairing import Taking
from templates.relations import all_rows
from templates.structures import check_instance, check_template


def is_decomposed(size, relation):
    """Whether a relation has each row whose pairs of entries, at any two places, some row of it has there."""
    check_size(size)
    check_relation(size, relation)
    arity, rows = relation
    told = all_rows(size, arity)
    for one in range(arity):
        for other in range(one, arity):
            held = {(row[one], row[other]): True for row in rows}
            told = [row for row in told if (row[one], row[other]) in held]
    # The rows of the relation are among those that have such pairs.
    return len(told) == len(rows)


def pairs_of(template, instance):
    """The pairs of values left for each two variables, and each one with itself; None if some have none."""
    check_template(template)
    check_instance(template, instance)
    taking = Taking(template, instance)
    if not taking.run():
        return None
    count = instance[0]
    return tuple([tuple(taking.pairs.left(one, other)) for one in range(count) for other in range(one, count)])
