"""Polymorphisms that are no projections, and the values on which all polymorphisms are projections."""

from templates.booleans import KINDS
from templates.carrying import carried_places, carried_scopes, check_carried
from templates.checks import are_places, is_integer, is_operation_arity, is_tuple, power_of
from templates.clones import polymorphism_network
from templates.conditions import find_operations, meeting
from templates.errors import BadArity, BadSize
from templates.networks import Network, ascending, solution, start, values_of
from templates.operations import position
from templates.relations import all_rows
from templates.structures import check_template
from templates.tables import TableStore

MOST_CYCLIC = 5
MOST_BLOCKED = 3
SIGGERS = ((4,), (((0, (0, 1, 2, 0)), (0, (1, 0, 1, 2))), ((0, (0, 0, 0, 0)), 0)))
WEAK_PAIR = ((3, 4), (
    ((0, (0, 0, 1)), (0, (0, 1, 0))), ((0, (0, 0, 1)), (0, (1, 0, 0))), ((0, (0, 0, 1)), (1, (0, 0, 0, 1))),
    ((0, (0, 0, 1)), (1, (0, 0, 1, 0))), ((0, (0, 0, 1)), (1, (0, 1, 0, 0))), ((0, (0, 0, 1)), (1, (1, 0, 0, 0))),
    ((0, (0, 0, 0)), 0), ((1, (0, 0, 0, 0)), 0)))


def siggers(template):
    """An idempotent polymorphism s for which s(x, y, z, x) is s(y, x, y, z), None if there is none."""
    found = find_operations(template, SIGGERS)
    return None if found is None else found[0]


def weak_pair(template):
    """Idempotent polymorphisms, of three and four arguments, with one value where one argument differs; or None."""
    return find_operations(template, WEAK_PAIR)


def cyclic(template, arity):
    """An idempotent polymorphism whose value stays when its arguments are turned, None if there is none."""
    check_template(template)
    if not is_integer(arity, 2, MOST_CYCLIC) or not is_operation_arity(template[0], arity):
        raise BadArity("a cyclic operation has 2 to 5 arguments, and a table of at most 256 values")
    check_carried(template, (arity,))
    letters = tuple(range(arity))
    turned = ((0, letters), (0, letters[1:] + letters[:1]))
    found = meeting(template, ((arity,), (turned, ((0, (0,) * arity), 0))), arity)
    return None if found is None else found[0]


def blocker(template):
    """The least pair (part, block) of values on which all idempotent polymorphisms are projections, or None."""
    _check_blocked(template)
    for part, block in _candidates(template[0]):
        if _is_blocker(template, part, block):
            return (part, block)
    return None


def shows_blocker(template, value):
    """Whether a value is such a pair."""
    _check_blocked(template)
    size = template[0]
    if not is_tuple(value, 2, 2) or not all(are_places(values, 1, size, size) for values in value):
        return False
    return value in _candidates(size) and _is_blocker(template, value[0], value[1])


def _check_blocked(template):
    """Raises the errors of a template whose blockers are looked for."""
    check_template(template)
    if template[0] > MOST_BLOCKED:
        raise BadSize("blockers are told for at most three values")
    # Three values need operations with four arguments, see _keeps_blocks.
    check_carried(template, (4,) if template[0] == MOST_BLOCKED else (3,))


def _candidates(size):
    """The ascending list of the pairs of a part and a block of it."""
    sets = [tuple(values_of(mask)) for mask in range(1, 1 << size)]
    return sorted([(part, block) for part in sets for block in sets if _is_block(part, block)])


def _is_block(part, block):
    """Whether some, not all, of the values of a part, the least one among them, are a block."""
    return len(block) < len(part) and block[0] == part[0] and all(value in part for value in block)


def _is_blocker(template, part, block):
    if not _keeps_blocks(template, part, block):
        return False
    acting = [operation for name, operation in KINDS if name not in ("zero", "one")]
    return not any([_acts(template, part, block, operation) for operation in acting])


def _idempotent(template):
    """The template whose polymorphisms are the idempotent ones of a template."""
    size, relations = template
    return (size, relations + tuple([(1, ((value,),)) for value in range(size)]))


def _keeps_blocks(template, part, block):
    """Whether all idempotent polymorphisms keep a part, and that two of its values are in one block.

    What leads from a block to another one does so in single steps too, each one with one kind
    of change: one pair of different values of a block is enough, beside the pairs of equal ones.
    """
    pairs = [(value, value) for value in part]
    for side in (block, _rest(part, block)):
        pairs.extend([(low, high) for low in side for high in side if low < high])
    network = polymorphism_network(_idempotent(template), len(pairs))
    places = carried_places(template[0], 2, pairs)
    for one, other in ascending(network, list(places), power_of(template[0], 2)):
        if one not in part or other not in part or (one in block) != (other in block):
            return False
    return True


def _rest(part, block):
    """The second block: the values of a part that are not in the block."""
    return tuple([value for value in part if value not in block])


def _acts(template, part, block, operation):
    """Whether an idempotent polymorphism acts on both blocks as an operation on 0 and 1."""
    size, relations = _idempotent(template)
    arity, table = operation
    blocks = (block, _rest(part, block))
    extended = (size, relations + tuple([(1, tuple([(value,) for value in side])) for side in blocks]))
    scopes = carried_scopes((size, relations), arity)
    for sides in all_rows(2, arity):
        asked = len(relations) + table[position(2, sides)]
        for values in all_rows(size, arity):
            if all([value in blocks[side] for value, side in zip(values, sides)]):
                scopes.append((asked, (position(size, values),)))
    store = TableStore(extended)
    network = Network(size, power_of(size, arity), [store.constraint(index, scope) for index, scope in scopes])
    return solution(network, start(network)) is not None
