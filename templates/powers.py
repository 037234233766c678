"""Powers of templates, whose values are tuples and whose relations are told by formulas."""

from templates.checks import (
    LONGEST_TABLE, MOST_VALUES, check_operation, check_size, is_integer, is_tuple, power_of)
from templates.errors import BadArity, BadFormulas, TooMany
from templates.formulas import is_formula, tells
from templates.merging import Merging
from templates.operations import position
from templates.relations import all_rows
from templates.structures import (
    MOST_CONSTRAINTS, MOST_RELATIONS, MOST_VARIABLES, check_instance, check_template)


def power(template, many, formulas):
    """The template of the tuples of many values, with the relations that formulas tell."""
    _check_power(template, many, formulas)
    size = template[0]
    relations = [_taken_together(size, many, tells(template, formula)) for formula in formulas]
    return (power_of(size, many), tuple(relations))


def _taken_together(size, many, relation):
    """A relation with each many entries of a row in turn taken as one value."""
    arity, rows = relation
    places = range(0, arity, many)
    taken = [tuple([position(size, row[place:place + many]) for place in places]) for row in rows]
    return (arity // many, tuple(taken))


def _check_power(template, many, formulas):
    """Raises the errors of what a power is made of."""
    check_template(template)
    _check_many(template[0], many)
    if not is_tuple(formulas, 0, MOST_RELATIONS):
        raise BadFormulas(None)
    for index, formula in enumerate(formulas):
        if not is_formula(template, formula) or int(formula[0]) % many != 0:
            raise BadFormulas(index)


def _check_many(size, many):
    if not is_integer(many, 1, 2) or power_of(size, many) > MOST_VALUES:
        raise BadArity("many is 1 or 2, and the size to this power at most 4")


def unfolded(template, many, formulas, instance):
    """An instance of the template that says what an instance of its power says, and the places of the values.

    The things that are merged are first the parts of the variables, then the hidden variables.
    """
    _check_power(template, many, formulas)
    # What rows the power has does not matter for what its instances are.
    shape = (power_of(template[0], many), tuple([(formula[0] // many, ()) for formula in formulas]))
    check_instance(shape, instance)
    variables, constraints = instance
    count = variables * many
    parts = []
    for index, scope in constraints:
        _, hidden, atoms = formulas[index]
        things = [variable * many + place for variable in scope for place in range(many)]
        parts.append((atoms, things + list(range(count, count + hidden))))
        count += hidden
    numbers = _numbers(count, parts)
    unfolding = max(numbers, default=-1) + 1
    if unfolding > MOST_VARIABLES:
        raise TooMany(MOST_VARIABLES)
    places = [tuple(numbers[variable * many:variable * many + many]) for variable in range(variables)]
    return ((unfolding, _constraints(numbers, parts)), tuple(places))


def _numbers(count, parts):
    """The number of the variable that each of the things is, behind all that is the same."""
    merging = Merging(count)
    for atoms, things in parts:
        for name, scope in atoms:
            if name == "same":
                merging.merge(things[scope[0]], things[scope[1]])
    return merging.numbered()


def _constraints(numbers, parts):
    """The different constraints among the atoms."""
    constraints = {}
    for atoms, things in parts:
        for name, scope in atoms:
            if name != "same":
                constraints[name, tuple([numbers[things[variable]] for variable in scope])] = True
        if len(constraints) > MOST_CONSTRAINTS:
            raise TooMany(MOST_CONSTRAINTS)
    return tuple(constraints)


def power_operation(size, many, operation):
    """The operation on the numbered tuples that applies an operation place by place."""
    check_size(size)
    _check_many(size, many)
    check_operation(size, operation)
    arity, table = operation
    if power_of(size, many * arity) > LONGEST_TABLE:
        raise TooMany(LONGEST_TABLE)
    values = []
    for arguments in all_rows(size, many * arity):
        told = [table[position(size, arguments[place::many])] for place in range(many)]
        values.append(position(size, told))
    return (arity, tuple(values))
