"""Solutions of instances, and certificates that there are none."""

from templates.checks import check_places, is_integer, is_tuple
from templates.errors import TooMany
from templates.networks import Network, ascending, solution, start
from templates.structures import check_instance, check_template
from templates.tables import BIT_COUNTS, TableStore
from templates.tally import tally

MOST_SOLUTIONS = 2000


def solve(template, instance):
    """The least solution of an instance, None if there is none."""
    check_template(template)
    check_instance(template, instance)
    found = ascending(_network(template, instance), list(range(instance[0])), 1)
    return found[0] if found else None


def solutions(template, instance):
    """The ascending list of all solutions of an instance."""
    check_template(template)
    check_instance(template, instance)
    found = ascending(_network(template, instance), list(range(instance[0])), MOST_SOLUTIONS + 1)
    if len(found) > MOST_SOLUTIONS:
        raise TooMany(MOST_SOLUTIONS)
    return found


def count_solutions(template, instance):
    """The number of solutions of an instance."""
    check_template(template)
    check_instance(template, instance)
    constraints = [(scope, table.rows) for scope, table in _constraints(template, instance)]
    return tally(template[0], instance[0], constraints)


def told_by(template, instance, variables):
    """The relation of the values that the variables have in the solutions."""
    check_template(template)
    check_instance(template, instance)
    check_places(variables, 1, 4, instance[0])
    order = sorted(set(variables))
    found = ascending(_network(template, instance), order, template[0] ** 4)
    rows = [tuple([values[order.index(variable)] for variable in variables]) for values in found]
    return (len(variables), tuple(sorted(rows)))


def _constraints(template, instance):
    """The pairs (different variables, table) of the constraints of an instance."""
    store = TableStore(template)
    return [store.constraint(index, scope) for index, scope in instance[1]]


def _network(template, instance):
    return Network(template[0], instance[0], _constraints(template, instance))


def conflict(template, instance):
    """Indexes of constraints without a solution together, but not without any one of them; or None."""
    check_template(template)
    check_instance(template, instance)
    constraints = _constraints(template, instance)
    needed = list(range(len(constraints)))
    if _are_solvable(template, instance, constraints, needed):
        return None
    for index in range(len(constraints)):
        fewer = _without(needed, index)
        if not _are_solvable(template, instance, constraints, fewer):
            needed = fewer
    return tuple(needed)


def _are_solvable(template, instance, constraints, indexes):
    """Whether the constraints with these indexes have a solution together."""
    network = Network(template[0], instance[0], [constraints[index] for index in indexes])
    masks = start(network)
    return masks is not None and solution(network, masks) is not None


def _without(indexes, index):
    return [other for other in indexes if other != index]


def shows_conflict(template, instance, value):
    """Whether a value is a conflict of an instance."""
    check_template(template)
    check_instance(template, instance)
    last = len(instance[1]) - 1
    if not isinstance(value, tuple) or not all(is_integer(index, 0, last) for index in value):
        return False
    if not all([index < following for index, following in zip(value, value[1:])]):
        return False
    constraints = _constraints(template, instance)
    if _are_solvable(template, instance, constraints, value):
        return False
    return all([_are_solvable(template, instance, constraints, _without(value, index)) for index in value])


def refutation(template, instance):
    """A tree that shows that an instance has no solution, None if it has one."""
    core = conflict(template, instance)
    if core is None:
        return None
    # Only constraints that are needed: splits of other variables would repeat the tree below them.
    constraints = _constraints(template, instance)
    network = Network(template[0], instance[0], [constraints[index] for index in core])
    masks = [(1 << template[0]) - 1] * instance[0]
    return _tree(network, core, masks)


def _tree(network, core, masks):
    """A refutation when the variables with one value are set; core tells the indexes of the constraints."""
    for at, index in enumerate(core):
        if network.tables[at].narrowed(network.told(at, masks)) is None:
            return ("clash", index)
    variable = _narrowest(network, masks)
    parts = []
    for value in range(network.size):
        trial = list(masks)
        trial[variable] = 1 << value
        parts.append(_tree(network, core, trial))
    return ("split", variable, tuple(parts))


def _narrowest(network, masks):
    """The variable, not set, with the fewest values that each of its constraints alone allows."""
    allowed = list(masks)
    for scope, table in zip(network.scopes, network.tables):
        narrowed = table.narrowed(tuple([masks[variable] for variable in scope]))
        for variable, mask in zip(scope, narrowed):
            allowed[variable] = allowed[variable] & mask
    joined = [k for k in range(len(masks)) if network.touching[k] and BIT_COUNTS[masks[k]] > 1]
    return min(joined, key=lambda k: (BIT_COUNTS[allowed[k]], -len(network.touching[k]), k))


def shows_refutation(template, instance, value):
    """Whether a value is a refutation of an instance."""
    check_template(template)
    check_instance(template, instance)
    return _refutes(template, instance, {}, value)


def _refutes(template, instance, values, tree):
    """Whether a value is a refutation when the variables have these values, as far as they are set."""
    size, (variables, constraints) = template[0], instance
    if is_tuple(tree, 2, 2) and tree[0] == "clash":
        return is_integer(tree[1], 0, len(constraints) - 1) and _clashes(template, constraints[tree[1]], values)
    if not is_tuple(tree, 3, 3) or tree[0] != "split":
        return False
    variable, parts = tree[1:]
    if not is_integer(variable, 0, variables - 1) or variable in values or not is_tuple(parts, size, size):
        return False
    for value, part in enumerate(parts):
        if not _refutes(template, instance, {**values, variable: value}, part):
            return False
    return True


def _clashes(template, constraint, values):
    """Whether no row gives each variable of the scope one value, and those that are set theirs."""
    index, scope = constraint
    return not any(_fits(scope, values, row) for row in template[1][index][1])


def _fits(scope, values, row):
    given = {variable: values[variable] for variable in scope if variable in values}
    for variable, value in zip(scope, row):
        if given.setdefault(variable, value) != value:
            return False
    return True
