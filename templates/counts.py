"""The numbers of maps between templates (L. Lovasz)."""

from templates.maps import as_instance, check_row_count, check_shapes, isomorphism, maps
from templates.relations import all_rows
from templates.solving import count_solutions


def map_count(one, other):
    """The number of maps from one template to another one."""
    return len(maps(one, other))


def onto_count(one, other):
    """The number of maps that have each value of the other template as an image."""
    return len([images for images in maps(one, other) if len(set(images)) == other[0]])


def lone_count(one, other):
    """The number of maps with different images of different values."""
    return len([images for images in maps(one, other) if len(set(images)) == len(images)])


def folds(template):
    """The folded instances of a template, for all partitions of its values."""
    variables, constraints = as_instance(template)
    return [_folded(constraints, blocks) for blocks in all_rows(variables, variables) if _are_blocks(blocks)]


def _are_blocks(numbers):
    """Whether each new number is the next one, from 0."""
    return all([number <= max(numbers[:at], default=-1) + 1 for at, number in enumerate(numbers)])


def _folded(constraints, blocks):
    """The instance whose variables are the blocks of variables, told by their numbers."""
    moved = [(index, tuple([blocks[variable] for variable in scope])) for index, scope in constraints]
    return (max(blocks) + 1, tuple(sorted(set(moved))))


def count_gap(one, other):
    """The first of the folds with different numbers of solutions, and these; None for isomorphic templates."""
    check_shapes(one, other)
    check_row_count(one)
    check_row_count(other)
    if isomorphism(one, other) is not None:
        return None
    for instance in folds(one) + folds(other):
        numbers = (count_solutions(one, instance), count_solutions(other, instance))
        if numbers[0] != numbers[1]:
            return (instance, numbers[0], numbers[1])
    return None
