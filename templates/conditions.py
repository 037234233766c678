"""Polymorphisms that meet equations."""

from templates.carrying import carried_scopes, check_carried
from templates.checks import are_places, is_integer, is_operation_arity, is_tuple, power_of
from templates.errors import BadCondition
from templates.merging import Merging
from templates.networks import Network, pinned, solution, values_of
from templates.operations import position
from templates.relations import all_rows
from templates.structures import check_template
from templates.tables import TableStore

MOST_UNKNOWN = 3
MOST_EQUATIONS = 12
MOST_LETTERS = 4
MAJORITY = ((3,), (((0, (0, 0, 1)), 0), ((0, (0, 1, 0)), 0), ((0, (1, 0, 0)), 0)))
MALTSEV = ((3,), (((0, (0, 1, 1)), 0), ((0, (1, 1, 0)), 0)))


def find_operations(template, condition):
    """A tuple of polymorphisms that meet a condition, None if there are none."""
    check_template(template)
    check_condition(template[0], condition)
    check_carried(template, condition[0])
    return meeting(template, condition, MOST_LETTERS)


def majority(template):
    """A polymorphism m for which m(x, x, y), m(x, y, x) and m(y, x, x) are x, None if there is none."""
    return _only(template, MAJORITY)


def maltsev(template):
    """A polymorphism m for which m(x, y, y) and m(y, y, x) are x, None if there is none."""
    return _only(template, MALTSEV)


def _only(template, condition):
    found = find_operations(template, condition)
    return None if found is None else found[0]


def check_condition(size, condition):
    """Raises BadCondition for a value that is no condition on operations of the size."""
    if not is_tuple(condition, 2, 2):
        raise BadCondition(None)
    arities, equations = condition
    if not is_tuple(arities, 1, MOST_UNKNOWN) or not all(is_operation_arity(size, arity) for arity in arities):
        raise BadCondition(None)
    if not is_tuple(equations, 0, MOST_EQUATIONS):
        raise BadCondition(None)
    for index, equation in enumerate(equations):
        if not is_tuple(equation, 2, 2) or not all(_is_side(arities, side) for side in equation):
            raise BadCondition(index)


def _is_side(arities, value):
    """Whether a value is a variable, or an unknown operation with variables."""
    if is_integer(value, 0, MOST_LETTERS - 1):
        return True
    if not is_tuple(value, 2, 2) or not is_integer(value[0], 0, len(arities) - 1):
        return False
    return are_places(value[1], arities[value[0]], arities[value[0]], MOST_LETTERS)


def meeting(template, condition, letters):
    """A tuple of polymorphisms that meet a condition in so many variables, None if there are none.

    The things that are merged are first the values, then the places of the tables.
    """
    size = template[0]
    arities, equations = condition
    beginnings = _beginnings(size, arities)
    merging = Merging(beginnings[-1])
    for one, other in equations:
        for values in all_rows(size, letters):
            merging.merge(_thing(size, beginnings, one, values), _thing(size, beginnings, other, values))
    numbers = merging.numbered()
    if numbers[:size] != list(range(size)):
        return None
    network = _network(template, arities, beginnings, numbers)
    masks = pinned(network, [(value, value) for value in range(size)])
    if masks is not None:
        masks = solution(network, masks)
    if masks is None:
        return None
    worth = [values_of(masks[number])[0] for number in numbers]
    return tuple([(arity, tuple(worth[beginnings[at]:beginnings[at + 1]])) for at, arity in enumerate(arities)])


def _beginnings(size, arities):
    """The number of the first thing of each table, and the number of all things."""
    beginnings = [size]
    for arity in arities:
        beginnings.append(beginnings[-1] + power_of(size, arity))
    return beginnings


def _thing(size, beginnings, side, values):
    """The number of the thing that a side is when the variables have these values."""
    if not isinstance(side, tuple):
        return values[side]
    index, letters = side
    return beginnings[index] + position(size, [values[letter] for letter in letters])


def _network(template, arities, beginnings, numbers):
    """The network whose variables are the numbers of the things, and in which the tables are polymorphisms."""
    store = TableStore(template)
    constraints = {}
    for arity in sorted(set(arities)):
        scopes = carried_scopes(template, arity)
        for beginning in [beginnings[at] for at in range(len(arities)) if arities[at] == arity]:
            for index, places in scopes:
                constraints[index, tuple([numbers[beginning + place] for place in places])] = True
    made = [store.constraint(index, scope) for index, scope in constraints]
    return Network(template[0], max(numbers) + 1, made)
