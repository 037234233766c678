"""Operations, and the relations that they keep."""

from templates.checks import (
    check_names, check_operation, check_operation_arity, check_relation, check_size, is_integer, is_operation,
    is_row, is_tuple, power_of)
from templates.errors import BadArguments, BadPlaces
from templates.partial import argument_steps
from templates.relations import all_rows


def position(size, arguments):
    """The place in a table at which the value for these arguments stands."""
    place = 0
    for argument in arguments:
        place = place * size + argument
    return place


def apply(size, operation, arguments):
    """The value of an operation for its arguments."""
    check_size(size)
    check_operation(size, operation)
    arity, table = operation
    if not is_row(size, arity, arguments):
        raise BadArguments("arguments are a tuple of as many values as the operation has arguments")
    return table[position(size, arguments)]


def projection(size, arity, place):
    """The operation whose value is its argument at the place."""
    check_size(size)
    check_operation_arity(size, arity)
    if not is_integer(place, 0, arity - 1):
        raise BadPlaces("the place of an argument is an integer from 0 to the arity - 1")
    return (arity, tuple([arguments[place] for arguments in all_rows(size, arity)]))


def compose(size, operation, inner):
    """The operation whose value is that of operation for the values of the inner ones."""
    check_size(size)
    check_operation(size, operation)
    if not _are_inner(size, operation[0], inner):
        raise BadArguments("inner is a tuple of operations of one arity, one for each argument")
    return composed(size, operation, inner)


def composed(size, operation, inner):
    """Like compose, for arguments that are known to be right."""
    tables = [part[1] for part in inner]
    arguments = [position(size, values) for values in zip(*tables)]
    return (inner[0][0], tuple([operation[1][place] for place in arguments]))


def _are_inner(size, arity, inner):
    """Whether a value is a tuple of so many operations, all of one arity."""
    if not is_tuple(inner, arity, arity) or not all(is_operation(size, part) for part in inner):
        return False
    return all(part[0] == inner[0][0] for part in inner)


def renamed_operation(size, operation, names):
    """The operation that has the new value of the old result for the new arguments."""
    check_size(size)
    check_operation(size, operation)
    check_names(size, names)
    arity, table = operation
    values = []
    for arguments in all_rows(size, arity):
        old = [names.index(argument) for argument in arguments]
        values.append(names[table[position(size, old)]])
    return (arity, tuple(values))


def keeps(size, operation, relation):
    """Whether an operation carries all tuples of rows of a relation to rows of it."""
    return breaks(size, operation, relation) is None


def breaks(size, operation, relation):
    """The least tuple of rows that is carried to no row of the relation, or None."""
    check_size(size)
    check_operation(size, operation)
    check_relation(size, relation)
    arity, rows = relation
    # All rows are kept by anything, and may be too many to go through their tuples.
    if len(rows) == power_of(size, arity):
        return None
    search = BreakSearch(argument_steps(size, operation), rows)
    return search.least(0, (0,) * arity)


class BreakSearch:
    """Looks for the least tuple of rows that is carried out of a relation.

    What some first rows leave open is told, place by place, by the number of the
    rest of the table. What was met without success is not gone through again.
    """

    def __init__(self, steps, rows):
        self.steps = steps
        self.rows = rows
        self.allowed = {row: True for row in rows}
        self.vain = [{} for step in steps]

    def least(self, level, numbers):
        """The least tuple of further rows that leads out of the relation, or None."""
        if level == len(self.steps):
            return None if numbers in self.allowed else ()
        if numbers in self.vain[level]:
            return None
        step = self.steps[level]
        for row in self.rows:
            following = tuple([step[number][value] for number, value in zip(numbers, row)])
            further = self.least(level + 1, following)
            if further is not None:
                return (row,) + further
        self.vain[level][numbers] = True
        return None
