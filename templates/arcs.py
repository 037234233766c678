"""Arc consistency, and the templates whose instances it decides."""

from templates.checks import are_places, is_integer, is_tuple
from templates.errors import TooMany
from templates.narrowing import Narrowing
from templates.networks import Network, solution, start, values_of
from templates.structures import MOST_CONSTRAINTS, check_instance, check_template
from templates.tables import TableStore

MOST_ROWS = 10
MOST_PARTS = 1024


def arc_domains(template, instance):
    """For each variable the values that arc consistency leaves, None if one has none left."""
    check_template(template)
    check_instance(template, instance)
    narrowing = Narrowing(template, instance)
    if not narrowing.run():
        return None
    return tuple([tuple(values_of(mask)) for mask in narrowing.masks])


def is_acyclic(template, instance):
    """Whether the constraints can be taken away one by one, each with at most one variable of those left."""
    check_template(template)
    check_instance(template, instance)
    scopes = [scope for _, scope in instance[1]]
    if any([len(set(scope)) < len(scope) for scope in scopes]):
        return False
    touched = [0] * instance[0]
    for scope in scopes:
        for variable in scope:
            touched[variable] += 1
    # What can be taken away once can be taken away later too, so that the order does not matter.
    while scopes:
        free = [at for at, scope in enumerate(scopes) if len([k for k in scope if touched[k] > 1]) <= 1]
        if not free:
            return False
        for variable in scopes[free[0]]:
            touched[variable] = touched[variable] - 1
        scopes = scopes[:free[0]] + scopes[free[0] + 1:]
    return True


def set_map(template):
    """The pairs (set, value) of a set map of a template, None if there is none."""
    _check_parts(template)
    sets = _sets(template[0])
    network = _set_network(template, sets)
    masks = start(network)
    if masks is not None:
        masks = solution(network, masks)
    if masks is None:
        return None
    return tuple([(part, values_of(mask)[0]) for part, mask in zip(sets, masks)])


def _set_network(template, sets):
    """The network whose variables are the sets of values, and whose solutions are set maps."""
    store = TableStore(template)
    made = [store.constraint(index, scope) for index, scope in _set_constraints(template, sets)]
    return Network(template[0], len(sets), made)


def shows_set_map(template, value):
    """Whether a value is the tuple of the pairs (set, value) of a set map."""
    _check_parts(template)
    size, relations = template
    sets = _sets(size)
    if not is_tuple(value, len(sets), len(sets)):
        return False
    if not all(_is_image(size, part, pair) for part, pair in zip(sets, value)):
        return False
    allowed = [{row: True for row in rows} for _, rows in relations]
    for index, scope in _set_constraints(template, sets):
        if tuple([value[part][1] for part in scope]) not in allowed[index]:
            return False
    return True


def _is_image(size, part, pair):
    """Whether a value is a pair of a set and a value."""
    if not is_tuple(pair, 2, 2) or not are_places(pair[0], 1, size, size):
        return False
    return pair[0] == part and is_integer(pair[1], 0, size - 1)


def set_instance(template):
    """The instance whose variables are the sets of values, and whose constraints are the rows of sets."""
    _check_parts(template)
    sets = _sets(template[0])
    constraints = _set_constraints(template, sets)
    if len(constraints) > MOST_CONSTRAINTS:
        raise TooMany(MOST_CONSTRAINTS)
    return (len(sets), tuple(constraints))


def _check_parts(template):
    """Raises the errors of a template whose sets of rows are to be gone through."""
    check_template(template)
    if any([len(rows) > MOST_ROWS for _, rows in template[1]]):
        raise TooMany(MOST_PARTS)


def _sets(size):
    """The ascending list of the non-empty sets of values."""
    return sorted([tuple(values_of(mask)) for mask in range(1, 1 << size)])


def _set_constraints(template, sets):
    """The ascending list of the rows of sets: pairs (index of a relation, numbers of the sets)."""
    numbers = {part: number for number, part in enumerate(sets)}
    constraints = []
    for index, (_, rows) in enumerate(template[1]):
        for masks in _set_rows(rows):
            constraints.append((index, tuple([numbers[tuple(values_of(mask))] for mask in masks])))
    return sorted(constraints)


def _set_rows(rows):
    """The rows of sets of a relation with these rows, the sets told as bits."""
    found = {}
    for row in rows:
        single = tuple([1 << value for value in row])
        for masks in list(found):
            found[tuple([old | new for old, new in zip(masks, single)])] = True
        found[single] = True
    return list(found)
