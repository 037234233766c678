"""Relations that linear equations tell, modulo 2 or 3."""

from templates.checks import check_relation, is_integer, power_of
from templates.errors import BadSize, NotAffine
from templates.operations import keeps
from templates.relations import all_rows
from templates.structures import check_instance, check_template


def is_affine(size, relation):
    """Whether x - y + z, modulo the size, keeps a relation."""
    _check_modulus(size)
    check_relation(size, relation)
    return _is_affine(size, relation)


def _is_affine(size, relation):
    table = tuple([(x - y + z) % size for x, y, z in all_rows(size, 3)])
    return keeps(size, (3, table), relation)


def equations(size, relation):
    """The equations, in reduced echelon form, whose solutions are the rows of a relation."""
    _check_modulus(size)
    check_relation(size, relation)
    _check_affine(size, relation)
    return _equations(size, relation)


def _check_modulus(size):
    if not is_integer(size, 2, 3):
        raise BadSize("sums are told for a size of 2 or 3")


def _check_affine(size, relation):
    if not relation[1] or not _is_affine(size, relation):
        raise NotAffine("x - y + z does not keep the relation, or it has no rows")


def _equations(size, relation):
    arity, rows = relation
    elimination = LinearElimination(size, arity)
    for coefficients in all_rows(size, arity):
        sums = [_weighed(size, coefficients, row) for row in rows]
        if min(sums) == max(sums):
            elimination.demand(coefficients + (sums[0],))
    return tuple([elimination.pivots[place] for place in sorted(elimination.pivots)])


def _weighed(size, coefficients, row):
    return sum([factor * value for factor, value in zip(coefficients, row)]) % size


class LinearElimination:
    """Equations in so many unknowns, modulo 2 or 3, in reduced echelon form.

    pivots tells the equation for each unknown whose coefficient is the first one there
    that is not 0. An equation is the tuple of the coefficients, and the sum behind them.
    """

    def __init__(self, size, unknowns):
        self.size = size
        self.unknowns = unknowns
        self.pivots = {}
        self.failed = False

    def demand(self, equation):
        """Adds an equation; failed tells then whether no values meet all of them."""
        for place, pivot in self.pivots.items():
            equation = self._less(equation, pivot, equation[place])
        filled = [place for place in range(self.unknowns) if equation[place] != 0]
        if not filled:
            self.failed = self.failed or equation[-1] != 0
            return
        first = filled[0]
        # Modulo 2 and 3 each number that is not 0 is its own inverse.
        equation = tuple([entry * equation[first] % self.size for entry in equation])
        for place in list(self.pivots):
            self.pivots[place] = self._less(self.pivots[place], equation, self.pivots[place][first])
        self.pivots[first] = equation

    def _less(self, equation, pivot, factor):
        """An equation less another one so many times."""
        return tuple([(entry - factor * other) % self.size for entry, other in zip(equation, pivot)])


def count_affine(template, instance):
    """The number of solutions of an instance whose relations are affine, found by elimination."""
    check_template(template)
    check_instance(template, instance)
    size, relations = template
    _check_modulus(size)
    for relation in relations:
        _check_affine(size, relation)
    told = [_equations(size, relation) for relation in relations]
    variables, constraints = instance
    elimination = LinearElimination(size, variables)
    for index, scope in constraints:
        for equation in told[index]:
            elimination.demand(_moved(size, variables, scope, equation))
    if elimination.failed:
        return 0
    return power_of(size, variables - len(elimination.pivots))


def _moved(size, variables, scope, equation):
    """An equation over the places of a scope as one over all variables."""
    moved = [0] * variables
    for variable, factor in zip(scope, equation):
        moved[variable] = (moved[variable] + factor) % size
    return tuple(moved) + (equation[-1],)
