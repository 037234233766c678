"""Costs of assignments, and of shares of values."""

from templates.checks import are_places, is_integer, is_positive, is_tuple, power_of
from templates.errors import BadCosts, BadTerms
from templates.operations import position
from templates.relaxing import Relaxation

MOST_VALUES = 3
MOST_FUNCTIONS = 4
MOST_PLACES = 2
MOST_COST = 1000
MOST_VARIABLES = 8
MOST_TERMS = 40


def check_costs(costs):
    """Raises BadCosts for a value that is no costs."""
    if not is_tuple(costs, 2, 2) or not is_integer(costs[0], 1, MOST_VALUES):
        raise BadCosts(None)
    size, functions = costs
    if not is_tuple(functions, 0, MOST_FUNCTIONS):
        raise BadCosts(None)
    for index, function in enumerate(functions):
        if not _is_cost_function(size, function):
            raise BadCosts(index)


def _is_cost_function(size, value):
    if not is_tuple(value, 2, 2) or not is_integer(value[0], 1, MOST_PLACES):
        return False
    rows = power_of(size, value[0])
    return is_tuple(value[1], rows, rows) and all(is_integer(cost, 0, MOST_COST) for cost in value[1])


def check_terms(costs, instance):
    """Raises BadTerms for a value that is no instance of right costs."""
    if not is_tuple(instance, 2, 2) or not is_integer(instance[0], 0, MOST_VARIABLES):
        raise BadTerms(None)
    variables, terms = instance
    if not is_tuple(terms, 0, MOST_TERMS):
        raise BadTerms(None)
    for index, term in enumerate(terms):
        if not _is_term(costs, variables, term):
            raise BadTerms(index)


def _is_term(costs, variables, value):
    if not is_tuple(value, 3, 3) or not is_integer(value[0], 0, len(costs[1]) - 1):
        return False
    arity = costs[1][value[0]][0]
    return are_places(value[1], arity, arity, variables) and is_positive(value[2])


def least_cost(costs, instance):
    """The least cost of an assignment, and the least assignment that has it."""
    check_costs(costs)
    check_terms(costs, instance)
    variables, terms = instance
    found = [(0, ())]
    for variable in range(variables):
        ended = [term for term in terms if max(term[1]) == variable]
        longer = [(cost, values + (value,)) for cost, values in found for value in range(costs[0])]
        found = [(cost + cost_of(costs, ended, values), values) for cost, values in longer]
    return min(found)


def cost_of(costs, terms, values):
    """The cost of an assignment, or of its first values if the terms have no further variables."""
    total = 0
    for index, scope, weight in terms:
        told = [values[variable] for variable in scope]
        total += weight * costs[1][index][1][position(costs[0], told)]
    return total


def relaxed(costs, instance):
    """The least cost of a relaxed assignment, the shares of its values, and bounds and prices that certify it."""
    check_costs(costs)
    check_terms(costs, instance)
    relaxation = Relaxation(costs, instance)
    return (relaxation.cost(), relaxation.shares(), relaxation.bounds(), relaxation.prices())
