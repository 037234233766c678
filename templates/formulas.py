"""Formulas, the relations that they tell, and whether there are some that tell a relation."""

from templates.carrying import carried_places, carried_scopes, check_carried
from templates.checks import are_places, check_relation, is_integer, is_operation, is_row, is_tuple, power_of
from templates.clones import polymorphism_network
from templates.eliminating import Elimination
from templates.errors import BadFormula, BadRelation, TooMany
from templates.merging import Merging
from templates.networks import ascending, pinned, solution, values_of
from templates.operations import keeps
from templates.structures import check_template, is_constraint
from templates.tables import TableStore

MOST_FREE = 4
MOST_HIDDEN = 256
MOST_ATOMS = 5000
LONGEST_TABLE = 256


def check_formula(template, formula):
    """Raises BadFormula for a value that is no formula over a right template."""
    if not _has_form(formula):
        raise BadFormula(None)
    free, hidden, atoms = formula
    for index, atom in enumerate(atoms):
        if not _is_atom(template, free + hidden, atom):
            raise BadFormula(index)


def is_formula(template, value):
    """Whether a value is a formula over a right template."""
    return _has_form(value) and all(_is_atom(template, value[0] + value[1], atom) for atom in value[2])


def _has_form(value):
    """Whether a value is a tuple of two numbers of variables and a tuple of things."""
    if not is_tuple(value, 3, 3):
        return False
    free, hidden, atoms = value
    if not is_integer(free, 1, MOST_FREE) or not is_integer(hidden, 0, MOST_HIDDEN):
        return False
    return is_tuple(atoms, 0, MOST_ATOMS)


def _is_atom(template, variables, value):
    if is_tuple(value, 2, 2) and value[0] == "same":
        return are_places(value[1], 2, 2, variables)
    return is_constraint(template, variables, value)


def tells(template, formula):
    """The relation of the values of the free variables with which a formula can hold."""
    check_template(template)
    check_formula(template, formula)
    size = template[0]
    free, hidden, atoms = formula
    merging = Merging(free + hidden)
    for name, scope in atoms:
        if name == "same":
            merging.merge(scope[0], scope[1])
    numbers = merging.numbered()
    elimination = Elimination(size, max(numbers) + 1, _constraints(template, atoms, numbers))
    # The numbers of the free variables come first.
    elimination.take_out(list(range(max(numbers[:free]) + 1, max(numbers) + 1)))
    if elimination.failed:
        return (free, ())
    rows = ascending(elimination.network(), numbers[:free], power_of(size, free))
    return (free, tuple(rows))


def _constraints(template, atoms, numbers):
    """The pairs (different variables, rows) that atoms ask of variables with these numbers."""
    asked = {}
    for name, scope in atoms:
        if name != "same":
            asked[name, tuple([numbers[variable] for variable in scope])] = True
    store = TableStore(template)
    made = [store.constraint(index, scope) for index, scope in asked]
    return [(variables, table.rows) for variables, table in made]


def hull(template, relation):
    """The relation of the rows to which polymorphisms carry all rows of a relation, these in ascending order."""
    _check_carriers(template, relation)
    size, (arity, rows) = template[0], relation
    network = polymorphism_network(template, len(rows))
    found = ascending(network, _places(template, relation), power_of(size, arity))
    return (arity, tuple(found))


def hull_formula(template, relation):
    """A formula that tells the hull of a relation.

    Its hidden variables are the values of a polymorphism.
    """
    _check_carriers(template, relation)
    arity = relation[0]
    count = len(relation[1])
    atoms = [("same", (at, arity + place)) for at, place in enumerate(_places(template, relation))]
    for index, scope in carried_scopes(template, count):
        atoms.append((index, tuple([arity + place for place in scope])))
    return (arity, power_of(template[0], count), tuple(atoms))


def definable(template, relation):
    """Whether some formula tells a relation."""
    _check_carriers(template, relation)
    return _escaping_row(template, relation) is None


def formula_for(template, relation):
    """A formula that tells a relation, None if there is none."""
    return hull_formula(template, relation) if definable(template, relation) else None


def escape(template, relation):
    """A polymorphism that carries the rows out of a relation, with the row to which it does; or None."""
    _check_carriers(template, relation)
    row = _escaping_row(template, relation)
    if row is None:
        return None
    network = polymorphism_network(template, len(relation[1]))
    masks = solution(network, pinned(network, list(zip(_places(template, relation), row))))
    return ((len(relation[1]), tuple([values_of(mask)[0] for mask in masks])), row)


def shows_escape(template, relation, value):
    """Whether a value is a pair of such a polymorphism and the row."""
    _check_carriers(template, relation)
    size, (arity, rows) = template[0], relation
    if not is_tuple(value, 2, 2):
        return False
    operation, row = value
    if not is_operation(size, operation) or operation[0] != len(rows) or not is_row(size, arity, row):
        return False
    if row in rows or row != tuple([operation[1][place] for place in _places(template, relation)]):
        return False
    return all(keeps(size, operation, other) for other in template[1])


def _check_carriers(template, relation):
    """Raises the errors of a template and a relation whose rows polymorphisms carry."""
    check_template(template)
    size, relations = template
    check_relation(size, relation)
    count = len(relation[1])
    if count == 0:
        raise BadRelation("the relation has no row")
    if power_of(size, count) > LONGEST_TABLE:
        raise TooMany(LONGEST_TABLE)
    check_carried(template, (count,))


def _places(template, relation):
    """The places in a table at which the row stands to which an operation carries the rows."""
    arity, rows = relation
    return list(carried_places(template[0], arity, rows))


def _escaping_row(template, relation):
    """A row of the hull that is not one of the relation, None if there is none."""
    rows = relation[1]
    network = polymorphism_network(template, len(rows))
    # The hull has the rows of the relation: if it has others, one of them is among so many.
    for row in ascending(network, _places(template, relation), len(rows) + 1):
        if row not in rows:
            return row
    return None
