"""Templates and instances, their solutions and polymorphisms."""

from templates.checks import (
    are_places, check_names, check_operation, is_integer, is_relation, is_row, is_tuple)
from templates.errors import BadInstance, BadTemplate
from templates.operations import keeps

MOST_RELATIONS = 6
MOST_VARIABLES = 16
MOST_CONSTRAINTS = 200


def check_template(template):
    """Raises BadTemplate for a value that is no template."""
    if not is_tuple(template, 2, 2) or not is_integer(template[0], 1, 4):
        raise BadTemplate(None)
    size, relations = template
    if not is_tuple(relations, 0, MOST_RELATIONS):
        raise BadTemplate(None)
    for index, relation in enumerate(relations):
        if not is_relation(size, relation):
            raise BadTemplate(index)


def check_instance(template, instance):
    """Raises BadInstance for a value that is no instance of a right template."""
    if not is_tuple(instance, 2, 2) or not is_integer(instance[0], 0, MOST_VARIABLES):
        raise BadInstance(None)
    variables, constraints = instance
    if not is_tuple(constraints, 0, MOST_CONSTRAINTS):
        raise BadInstance(None)
    for index, constraint in enumerate(constraints):
        if not is_constraint(template, variables, constraint):
            raise BadInstance(index)


def is_constraint(template, variables, value):
    """Whether a value is a pair (index of a relation, scope) over so many variables."""
    if not is_tuple(value, 2, 2) or not is_integer(value[0], 0, len(template[1]) - 1):
        return False
    arity = template[1][value[0]][0]
    return are_places(value[1], arity, arity, variables)


def satisfies(template, instance, values):
    """Whether a value is a solution of an instance."""
    check_template(template)
    check_instance(template, instance)
    size, relations = template
    variables, constraints = instance
    if not is_row(size, variables, values):
        return False
    for index, scope in constraints:
        if tuple([values[variable] for variable in scope]) not in relations[index][1]:
            return False
    return True


def is_polymorphism(template, operation):
    """Whether an operation keeps all relations of a template."""
    check_template(template)
    size, relations = template
    check_operation(size, operation)
    return all(keeps(size, operation, relation) for relation in relations)


def renamed(template, names):
    """The template with each value replaced by its name."""
    check_template(template)
    size, relations = template
    check_names(size, names)
    return (size, tuple([_renamed_relation(relation, names) for relation in relations]))


def _renamed_relation(relation, names):
    arity, rows = relation
    return (arity, tuple(sorted([tuple([names[value] for value in row]) for row in rows])))
