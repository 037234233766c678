"""Polymorphisms of templates, and operations made of given ones."""

from templates.carrying import carried_scopes, check_carried
from templates.checks import (
    are_places, check_given, check_operation, check_operation_arity, check_size, is_integer, is_tuple, power_of)
from templates.errors import BadTerm, TooMany
from templates.making import Making, planes_of, table_of
from templates.networks import Network, ascending
from templates.operations import composed, projection
from templates.structures import check_template
from templates.tables import TableStore

MOST_MADE = 2000
LONGEST_TERM = 2000


def polymorphisms(template, arity):
    """The ascending list of all polymorphisms of an arity."""
    check_template(template)
    size = template[0]
    check_operation_arity(size, arity)
    check_carried(template, (arity,))
    network = polymorphism_network(template, arity)
    tables = ascending(network, list(range(power_of(size, arity))), MOST_MADE + 1)
    if len(tables) > MOST_MADE:
        raise TooMany(MOST_MADE)
    return [(arity, table) for table in tables]


def polymorphism_network(template, arity):
    """The network whose variables are the places in tables, and whose solutions are polymorphisms."""
    store = TableStore(template)
    constraints = [store.constraint(index, scope) for index, scope in carried_scopes(template, arity)]
    return Network(template[0], power_of(template[0], arity), constraints)


def generated(size, operations, arity):
    """The ascending list of the operations of an arity that are made of given ones."""
    check_size(size)
    check_given(size, operations)
    check_operation_arity(size, arity)
    made = _made(size, operations, arity)
    length = power_of(size, arity)
    return sorted([(arity, table_of(planes, length)) for planes in made.planes])


def term_for(size, operations, goal):
    """A term that makes the operation goal of given ones, None if it is not made."""
    check_size(size)
    check_given(size, operations)
    check_operation(size, goal)
    made = _made(size, operations, goal[0])
    planes = planes_of(size, goal[1])
    if planes not in made.numbers:
        return None
    return _term(made.origins, made.numbers[planes])


def _made(size, operations, arity):
    """All operations of the arity that are made of given ones."""
    projections = [projection(size, arity, place)[1] for place in range(arity)]
    made = Making(size, operations, projections, MOST_MADE)
    if not made.make():
        raise TooMany(MOST_MADE)
    return made


def _term(origins, last):
    """The term of the steps that the last one of these steps needs."""
    needed = [False] * last + [True]
    for number in reversed(range(last + 1)):
        if needed[number] and origins[number][0] == "apply":
            for earlier in origins[number][2]:
                needed[earlier] = True
    numbers = [number for number in range(last + 1) if needed[number]]
    places = {number: place for place, number in enumerate(numbers)}
    return tuple([_moved(origins[number], places) for number in numbers])


def _moved(step, places):
    """A step when the earlier steps stand at these places."""
    if step[0] == "input":
        return step
    return ("apply", step[1], tuple([places[number] for number in step[2]]))


def run_term(size, operations, arity, term):
    """The operation of an arity that a term makes of given ones."""
    check_size(size)
    check_given(size, operations)
    check_operation_arity(size, arity)
    check_term(operations, arity, term)
    made = []
    for step in term:
        if step[0] == "input":
            made.append(projection(size, arity, step[1]))
        else:
            made.append(composed(size, operations[step[1]], [made[place] for place in step[2]]))
    return made[-1]


def check_term(operations, arity, term):
    """Raises BadTerm for a value that is no term with so many inputs."""
    if not is_tuple(term, 1, LONGEST_TERM):
        raise BadTerm(None)
    for index, step in enumerate(term):
        if not _is_step(operations, arity, index, step):
            raise BadTerm(index)


def _is_step(operations, arity, index, step):
    """Whether a value is a step that can stand behind so many others."""
    if is_tuple(step, 2, 2) and step[0] == "input":
        return is_integer(step[1], 0, arity - 1)
    if not is_tuple(step, 3, 3) or step[0] != "apply" or not is_integer(step[1], 0, len(operations) - 1):
        return False
    wanted = operations[step[1]][0]
    return are_places(step[2], wanted, wanted, index)
