"""Maps between templates, and the least parts to which templates can be mapped."""

from templates.checks import MOST_VALUES, are_places, is_row, is_tuple, power_of
from templates.errors import BadShape, TooMany
from templates.networks import Network, ascending
from templates.structures import MOST_CONSTRAINTS, check_template
from templates.tables import TableStore


def maps(one, other):
    """The ascending list of all maps from one template to another one."""
    check_shapes(one, other)
    store = TableStore(other)
    constraints = [store.constraint(index, row) for index, row in _told_rows(one)]
    network = Network(other[0], one[0], constraints)
    return ascending(network, list(range(one[0])), power_of(other[0], one[0]))


def check_shapes(one, other):
    """Raises the errors of two templates that must have the same shape."""
    check_template(one)
    check_template(other)
    if [arity for arity, _ in one[1]] != [arity for arity, _ in other[1]]:
        raise BadShape("the templates do not have the same shape")


def _told_rows(template):
    """The pairs (index of a relation, row) of a template, relation by relation."""
    return [(index, row) for index, (_, rows) in enumerate(template[1]) for row in rows]


def any_map(one, other):
    """A map from one template to another one, None if there is none."""
    found = maps(one, other)
    return found[0] if found else None


def both_ways(one, other):
    """A map from one template to another one, and a map back; None if there are not both."""
    there = any_map(one, other)
    back = any_map(other, one)
    if there is None or back is None:
        return None
    return (there, back)


def isomorphism(one, other):
    """A map that gives different images, between as many values and rows; None if there is none."""
    found = [images for images in maps(one, other) if len(set(images)) == len(images)]
    if not found or one[0] != other[0] or len(_told_rows(one)) != len(_told_rows(other)):
        return None
    return found[0]


def times(one, other):
    """The template of the pairs of values of two templates."""
    check_shapes(one, other)
    size = one[0] * other[0]
    if size > MOST_VALUES:
        raise TooMany(MOST_VALUES)
    relations = []
    for (arity, rows), (_, seconds) in zip(one[1], other[1]):
        pairs = [_paired(other[0], row, second) for row in rows for second in seconds]
        relations.append((arity, tuple(sorted(pairs))))
    return (size, tuple(relations))


def _paired(size, row, second):
    return tuple([value * size + half for value, half in zip(row, second)])


def as_instance(template):
    """The instance whose variables are the values of a template, and whose constraints are its rows."""
    check_template(template)
    check_row_count(template)
    return (template[0], tuple(_told_rows(template)))


def check_row_count(template):
    """Raises TooMany for a template with more rows than instances can have constraints."""
    if len(_told_rows(template)) > MOST_CONSTRAINTS:
        raise TooMany(MOST_CONSTRAINTS)


def core(template):
    """The values of a map of a template to itself that has fewest of them and fixes them, and this map."""
    # A map with the fewest values permutes them, so that repeating it leads to one that fixes them.
    fixing = [images for images in maps(template, template) if _fixes_its_values(images)]
    least = min(fixing, key=lambda candidate: len(set(candidate)))
    return (_values(least), least)


def _values(images):
    """The values of a map, as an ascending tuple."""
    return tuple(sorted(set(images)))


def _fixes_its_values(images):
    return all([images[value] == value for value in images])


def is_core(template):
    """Whether each map of a template to itself has all values."""
    return all([len(set(images)) == len(images) for images in maps(template, template)])


def shows_core(template, value):
    """Whether a value is a pair of the fewest values and a map that has and fixes them."""
    check_template(template)
    size = template[0]
    if not is_tuple(value, 2, 2):
        return False
    values, images = value
    if not are_places(values, 1, size, size) or not is_row(size, size, images):
        return False
    found = maps(template, template)
    if images not in found or values != _values(images) or not _fixes_its_values(images):
        return False
    return len(values) == min([len(set(other)) for other in found])
