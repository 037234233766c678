"""The search for values of many variables under many constraints.

Masks are a list that tells for each variable, as bits, the set of the values that it can have.
"""

from templates.tables import BIT_COUNTS


class Network:
    """Variables with constraints: pairs (different variables, table)."""

    def __init__(self, size, count, constraints):
        self.size = size
        self.scopes = [scope for scope, _ in constraints]
        self.tables = [table for _, table in constraints]
        self.touching = [[] for _ in range(count)]
        for index, scope in enumerate(self.scopes):
            for variable in scope:
                self.touching[variable].append(index)

    def told(self, index, masks):
        """The sets of values of the variables of a constraint."""
        return tuple([masks[variable] for variable in self.scopes[index]])


def start(network):
    """The masks of a network without values that no constraint allows, None if there are none left."""
    masks = [(1 << network.size) - 1 for _ in network.touching]
    return _settled(network, masks, list(range(len(network.scopes))))


def assigned(network, masks, variable, value):
    """The masks that are left when a variable has a value, None if that leaves none."""
    trial = list(masks)
    trial[variable] = 1 << value
    return _settled(network, trial, list(network.touching[variable]))


def _settled(network, masks, waiting):
    """The masks, narrowed until the waiting constraints, and all that they touch, take no value away.

    Modifies masks and waiting, which its callers made for it.
    """
    queued = [False] * len(network.scopes)
    for index in waiting:
        queued[index] = True
    while waiting:
        index = waiting.pop()
        queued[index] = False
        told = network.told(index, masks)
        narrowed = network.tables[index].narrowed(told)
        if narrowed is None:
            return None
        if narrowed == told:
            continue
        for variable, old, new in zip(network.scopes[index], told, narrowed):
            if old != new:
                masks[variable] = new
                _wait(network, variable, index, queued, waiting)
    return masks


def _wait(network, variable, reason, queued, waiting):
    """Queues the constraints of a variable, but not the one that just narrowed it."""
    for index in network.touching[variable]:
        if index != reason and not queued[index]:
            queued[index] = True
            waiting.append(index)


def values_of(mask):
    """The ascending list of the values in a set."""
    return [value for value in range(mask.bit_length()) if (mask >> value) & 1]


def pinned(network, pins):
    """The masks that are left when variables have values, told as pairs; None if that leaves none."""
    masks = start(network)
    for variable, value in pins:
        if masks is None or not (masks[variable] >> value) & 1:
            return None
        masks = assigned(network, masks, variable, value)
    return masks


def solution(network, masks):
    """Some masks of single values under all constraints, within settled masks, None if there are none.

    Masks are None where settling left none.
    """
    choices = []
    while masks is not None:
        variable = _open_variable(network, masks)
        if variable is None:
            # The least values, for the variables that no constraint touches.
            return [mask & -mask for mask in masks]
        choices.append((masks, variable, values_of(masks[variable])))
        masks = _gone_on(network, choices)
    return None


def _open_variable(network, masks):
    """The variable to choose a value for next, None if each one that a constraint touches has a single value."""
    left = [k for k, mask in enumerate(masks) if BIT_COUNTS[mask] > 1 and network.touching[k]]
    return min(left, key=lambda k: (BIT_COUNTS[masks[k]], -len(network.touching[k]), k), default=None)


def _gone_on(network, choices):
    """The masks behind the next value of the latest choice that has one, None if none has.

    Takes away the values tried and the choices without further ones.
    """
    while choices:
        masks, variable, left = choices[-1]
        while left:
            trial = assigned(network, masks, variable, left.pop(0))
            if trial is not None:
                return trial
        choices.pop()
        # A choice that constraints do not join with the variable does not change what it can have.
        while choices and not _are_joined(network, choices[-1][0], choices[-1][1], variable):
            choices.pop()
    return None


def _are_joined(network, masks, one, other):
    """Whether constraints that still tell something join two open variables."""
    met = [False] * len(network.touching)
    passed = [False] * len(network.scopes)
    met[one] = True
    part = [one]
    at = 0
    while at < len(part) and not met[other]:
        for index in network.touching[part[at]]:
            if not passed[index]:
                passed[index] = True
                _gather(network, masks, index, met, part)
        at += 1
    return met[other]


def _gather(network, masks, index, met, part):
    """Adds to a part the open variables that a constraint joins with it, if it still tells something."""
    told = network.told(index, masks)
    if network.tables[index].is_silent(told):
        return
    for variable, mask in zip(network.scopes[index], told):
        if not met[variable] and BIT_COUNTS[mask] > 1:
            met[variable] = True
            part.append(variable)


def ascending(network, order, most):
    """The ascending list of the values that the variables in order have in solutions.

    It ends behind the first most of them.
    """
    found = []
    masks = start(network)
    # Each branch knows a solution below it, or it is still to be looked for.
    branches = [] if masks is None else [(0, masks, None)]
    while branches and len(found) < most:
        level, masks, known = branches.pop()
        if known is None:
            known = solution(network, masks)
        if known is None:
            continue
        while level < len(order) and BIT_COUNTS[masks[order[level]]] == 1:
            level += 1
        if level == len(order):
            found.append(tuple([values_of(masks[variable])[0] for variable in order]))
            continue
        variable = order[level]
        for value in reversed(values_of(masks[variable])):
            trial = assigned(network, masks, variable, value)
            if trial is not None:
                branches.append((level + 1, trial, known if known[variable] == 1 << value else None))
    return found
