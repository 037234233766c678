"""What values are allowed for the arguments of the package."""

from templates.errors import BadArguments, BadArity, BadNames, BadOperation, BadPlaces, BadRelation, BadSize

MOST_VALUES = 4
MOST_PLACES = 4
MOST_ARGUMENTS = 8
LONGEST_TABLE = 256
MOST_GIVEN = 4


def power_of(base, exponent):
    """base to the power of exponent, an integer that is not negative."""
    worth = 1
    for _ in range(exponent):
        worth = worth * base
    return worth


def is_integer(value, low, high):
    """Whether a value is an integer from low to high; True and False are none."""
    return isinstance(value, int) and not isinstance(value, bool) and low <= value <= high


def is_positive(value):
    """Whether a value is an integer of at least 1, however great."""
    return isinstance(value, int) and not isinstance(value, bool) and value > 0


def is_tuple(value, low, high):
    """Whether a value is a tuple of low to high things."""
    return isinstance(value, tuple) and low <= len(value) <= high


def is_row(size, arity, value):
    """Whether a value is a tuple of so many values of the size."""
    return is_tuple(value, arity, arity) and all(is_integer(entry, 0, size - 1) for entry in value)


def is_relation(size, value):
    """Whether a value is a relation of the size."""
    if not is_tuple(value, 2, 2):
        return False
    arity, rows = value
    if not is_integer(arity, 1, MOST_PLACES) or not isinstance(rows, tuple):
        return False
    if not all(is_row(size, arity, row) for row in rows):
        return False
    return all([row < following for row, following in zip(rows, rows[1:])])


def is_operation_arity(size, value):
    """Whether operations of the size can have so many arguments."""
    return is_integer(value, 1, MOST_ARGUMENTS) and power_of(size, value) <= LONGEST_TABLE


def is_operation(size, value):
    """Whether a value is an operation of the size."""
    if not is_tuple(value, 2, 2):
        return False
    arity, table = value
    return is_operation_arity(size, arity) and is_row(size, power_of(size, arity), table)


def are_places(value, low, high, bound):
    """Whether a value is a tuple of low to high integers from 0 to bound - 1."""
    return is_tuple(value, low, high) and all(is_integer(place, 0, bound - 1) for place in value)


def check_size(size):
    if not is_integer(size, 1, MOST_VALUES):
        raise BadSize("a size is an integer from 1 to 4")


def check_relation(size, relation):
    if not is_relation(size, relation):
        raise BadRelation("a relation is a pair (arity, ascending tuple of different rows)")


def check_relation_arity(arity):
    if not is_integer(arity, 1, MOST_PLACES):
        raise BadArity("the arity of a relation is an integer from 1 to 4")


def check_operation(size, operation):
    if not is_operation(size, operation):
        raise BadOperation("an operation is a pair (arity, table of its values)")


def check_operation_arity(size, arity):
    if not is_operation_arity(size, arity):
        raise BadArity("no operation of this size has this arity")


def check_places(places, low, high, bound):
    if not are_places(places, low, high, bound):
        raise BadPlaces("places are a tuple of integers, each one the number of a place")


def check_names(size, names):
    if not is_row(size, size, names) or sorted(names) != list(range(size)):
        raise BadNames("names are a permutation of the values, told as a tuple")


def check_given(size, operations):
    """Raises the errors of given operations (point 13)."""
    if not is_tuple(operations, 0, MOST_GIVEN):
        raise BadArguments("given operations are a tuple of at most 4 operations")
    for operation in operations:
        check_operation(size, operation)
