"""The number of solutions of constraints, without going through the solutions.

The variables get their values one after the other. What the constraints then still
ask of the further ones is a state; equal states are taken together, with the number
of the ways that lead there. A relation is told as bits, one for each tuple of values
in ascending order.
"""

from templates.checks import power_of
from templates.operations import position


def tally(size, count, constraints):
    """The number of solutions for so many variables of constraints: pairs (scope, rows).

    The variables of a scope are different ones.
    """
    places = [0] * count
    for place, variable in enumerate(_elimination_order(count, [scope for scope, _ in constraints])):
        places[variable] = place
    starting = _starting(size, count, [_moved(size, places, scope, rows) for scope, rows in constraints])
    numbers = {(): 1}
    for place in range(count):
        following = {}
        for state, number in numbers.items():
            for value in range(size):
                further = _further(size, state + starting[place], place, value)
                if further is not None:
                    following[further] = following.get(further, 0) + number
        numbers = following
    return sum(numbers.values())


def _moved(size, places, scope, rows):
    """The pair (ascending scope, bits) of a constraint when the variables have these places."""
    moved = [places[variable] for variable in scope]
    scope = tuple(sorted(moved))
    turned = [moved.index(place) for place in scope]
    bits = 0
    for row in rows:
        bits = bits | (1 << position(size, [row[at] for at in turned]))
    return (scope, bits)


def _starting(size, count, moved):
    """For each place the constraints that ask something of it first, those of one scope taken together."""
    met = {}
    for scope, bits in moved:
        met[scope] = met.get(scope, bits) & bits
    starting = [() for _ in range(count)]
    for scope, bits in met.items():
        starting[scope[0]] += ((scope, bits),)
    return starting


def _further(size, state, place, value):
    """The state behind a state when the variable at the place has a value, None if nothing is left."""
    asked = {}
    for scope, bits in state:
        if scope[0] == place:
            scope = scope[1:]
            block = power_of(size, len(scope))
            all_bits = (1 << block) - 1
            bits = (bits >> (value * block)) & all_bits
            if bits == all_bits:
                continue
        bits = bits & asked.get(scope, bits)
        if bits == 0:
            return None
        asked[scope] = bits
    return tuple(sorted(asked.items()))


def _elimination_order(count, scopes):
    """The variables in an order in which few of them, at any time, are joined with later ones."""
    joined = [[False] * count for _ in range(count)]
    for scope in scopes:
        for variable in scope:
            for other in scope:
                joined[variable][other] = True
    order = []
    while len(order) < count:
        left = [variable for variable in range(count) if variable not in order]
        order.append(min(left, key=lambda k: (_open_count(joined, order + [k], left), k)))
    return order


def _open_count(joined, done, left):
    """How many of those that are done are joined with one that is left and not done."""
    later = [other for other in left if other != done[-1]]
    return len([variable for variable in done if _is_joined(joined, variable, later)])


def _is_joined(joined, variable, others):
    return any(joined[variable][other] for other in others)
