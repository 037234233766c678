"""The relations that given operations keep."""

from templates.checks import check_given, check_relation_arity, check_size, power_of
from templates.errors import TooMany
from templates.operations import BreakSearch
from templates.partial import argument_steps
from templates.relations import all_rows

MOST_KEPT = 512


def invariants(size, operations, arity):
    """The ascending list of all relations of an arity that all given operations keep."""
    check_size(size)
    check_given(size, operations)
    check_relation_arity(arity)
    if power_of(2, power_of(size, arity)) > MOST_KEPT:
        raise TooMany(MOST_KEPT)
    steps = [argument_steps(size, operation) for operation in operations]
    parts = [()]
    for row in all_rows(size, arity):
        parts = parts + [part + (row,) for part in parts]
    return [(arity, rows) for rows in sorted(parts) if _is_kept(arity, rows, steps)]


def _is_kept(arity, rows, steps):
    """Whether the operations with these steps keep the relation of the rows."""
    beginning = (0,) * arity
    return all(BreakSearch(told, rows).least(0, beginning) is None for told in steps)
