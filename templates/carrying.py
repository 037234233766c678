"""What polymorphisms are asked: the places in a table at which rows that are carried stand."""

from templates.checks import power_of
from templates.errors import TooMany

MOST_CARRIED = 4000


def check_carried(template, arities):
    """Raises TooMany if operations of these arities would carry too many tuples of rows of a template."""
    carried = 0
    for arity in arities:
        carried += sum([power_of(len(relation[1]), arity) for relation in template[1]])
    if carried > MOST_CARRIED:
        raise TooMany(MOST_CARRIED)


def carried_scopes(template, arity):
    """The different pairs (index of a relation, places) that tell what a polymorphism of an arity is asked.

    The values at these places of its table must be a row of the relation.
    """
    size, relations = template
    scopes = {}
    for index, (width, rows) in enumerate(relations):
        for scope in _scopes(size, width, rows, arity):
            scopes[index, scope] = True
    return list(scopes)


def _scopes(size, width, rows, arity):
    """For each tuple of so many rows, the places in a table at which an operation has what it carries them to."""
    scopes = [(0,) * width]
    for _ in range(arity):
        scopes = [further_places(size, scope, row) for scope in scopes for row in rows]
    return scopes


def further_places(size, scope, row):
    """The places of tables of one more argument, when this argument has the values of a row."""
    return tuple([place * size + value for place, value in zip(scope, row)])


def carried_places(size, width, rows):
    """The places of a table with as many arguments as there are rows, at which the row is that these are carried to."""
    places = (0,) * width
    for row in rows:
        places = further_places(size, places, row)
    return places
