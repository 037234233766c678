"""Costs with two values: the weights of operations that lower them, and least costs by cuts."""

from math import gcd

from templates.checks import is_operation, is_tuple
from templates.costs import check_costs, check_terms, cost_of
from templates.errors import NotBinary, NotSubmodular
from templates.flows import near_side
from templates.operations import position
from templates.ratios import is_positive_ratio, ratio
from templates.relations import all_rows
from templates.simplex import Simplex


def weights(costs):
    """Symmetric operations with positive ratios under which averages cost no more, None if there are none."""
    _check_binary(costs)
    game = Game(costs)
    return None if game.is_gap() else game.weighed()


def gap_instance(costs):
    """An instance of three variables whose least cost is greater than its relaxed cost, None if there are weights."""
    _check_binary(costs)
    game = Game(costs)
    return (3, game.asked()) if game.is_gap() else None


def _check_binary(costs):
    check_costs(costs)
    if costs[0] != 2:
        raise NotBinary("the costs have not just two values")


def _symmetric_operations():
    """The ascending list of the operations with two arguments that do not depend on their order."""
    return [(2, (low, mixed, mixed, high)) for low, mixed, high in all_rows(2, 3)]


def _questions(costs):
    """The triples (index of a function, row, row): each two rows once, also each row with itself."""
    asked = []
    for index, (arity, _) in enumerate(costs[1]):
        rows = all_rows(2, arity)
        asked.extend([(index, row, other) for row in rows for other in rows if row <= other])
    return asked


def _excess(costs, question, operation):
    """How much the cost where two rows are carried, taken twice, is greater than their costs."""
    index, row, other = question
    carried = [operation[1][position(2, pair)] for pair in zip(row, other)]
    table = costs[1][index][1]
    return 2 * table[position(2, carried)] - table[position(2, row)] - table[position(2, other)]


class Game:
    """One side weighs operations, the other one questions; the excess of both is what the second one gains.

    There are weights if the first one can make sure that nothing is gained. Otherwise the
    second one can make sure that something is, whatever the operation.
    """

    def __init__(self, costs):
        self.operations = _symmetric_operations()
        self.questions = _questions(costs)
        rows = [[_excess(costs, question, operation) for operation in self.operations] for question in self.questions]
        # A row that asks nothing, so that the value of the game is at least 0.
        rows.append([0] * len(self.operations))
        # With 1 added to all entries, amounts within the bounds 1 have the greatest sum 1 / (1 + value).
        lifted = [[entry + 1 for entry in row] for row in rows]
        self.simplex = Simplex(lifted, [1] * len(rows), [1] * len(self.operations))

    def is_gap(self):
        """Whether the value of the game is positive."""
        return self.simplex.gain() < self.simplex.unit

    def weighed(self):
        """The operations with the ratios by which the first side weighs them."""
        total = self.simplex.gain()
        weighed = list(zip(self.operations, self.simplex.amounts()))
        return tuple([(operation, ratio(amount, total)) for operation, amount in weighed if amount > 0])

    def asked(self):
        """The questions as terms, weighed as the second side does.

        Variable 0 stands where both rows have 0, variable 2 where both have 1, and variable 1
        where they differ, so that an assignment is a symmetric operation.
        """
        prices = self.simplex.prices()[len(self.operations):]
        shared = 0
        for price in prices:
            shared = gcd(shared, price)
        terms = []
        for (index, row, other), price in zip(self.questions, prices):
            if price > 0:
                terms.append((index, tuple([one + two for one, two in zip(row, other)]), price // shared))
        return tuple(terms)


def shows_weights(costs, value):
    """Whether a value is such a tuple of operations and ratios."""
    _check_binary(costs)
    if not isinstance(value, tuple) or not all(_is_weighed(pair) for pair in value):
        return False
    if not all([pair[0] < following[0] for pair, following in zip(value, value[1:])]):
        return False
    # The ratios over a denominator that all of them have.
    common = 1
    for pair in value:
        common = common * pair[1][1]
    amounts = [numerator * (common // denominator) for _, (numerator, denominator) in value]
    if sum(amounts) != common:
        return False
    return not any([_is_exceeded(costs, question, value, amounts) for question in _questions(costs)])


def _is_weighed(value):
    """Whether a value is a pair of a symmetric operation and a positive ratio."""
    if not is_tuple(value, 2, 2) or not is_operation(2, value[0]):
        return False
    return value[0] in _symmetric_operations() and is_positive_ratio(value[1])


def _is_exceeded(costs, question, pairs, amounts):
    """Whether the average cost where two rows are carried is greater than half the sum of their costs."""
    return sum([amount * _excess(costs, question, pair[0]) for pair, amount in zip(pairs, amounts)]) > 0


def is_submodular(costs):
    """Whether the rows of the lesser and of the greater entries never cost more than the two rows."""
    _check_binary(costs)
    return all([_is_submodular(table) for arity, table in costs[1] if arity == 2])


def _is_submodular(table):
    # Rows that are not one below the other are those of (0, 1) and (1, 0) alone.
    return table[0] + table[3] <= table[1] + table[2]


def least_by_cut(costs, instance):
    """The least cost of an assignment, and the least assignment that has it, found by a flow."""
    check_costs(costs)
    check_terms(costs, instance)
    # is_submodular raises NotBinary, too.
    if not is_submodular(costs):
        raise NotSubmodular("the costs are not submodular")
    values = near_side(_capacities(costs, instance))
    return (cost_of(costs, instance[1], values), values)


def _capacities(costs, instance):
    """The capacities of a network whose cuts cost as much as the assignments, but for what all of these cost.

    The variables with the value 1 are those on the side of the source.
    """
    variables, terms = instance
    source, sink = variables, variables + 1
    capacities = [[0] * (variables + 2) for _ in range(variables + 2)]
    extra = [0] * variables
    for index, scope, weight in terms:
        arity, table = costs[1][index]
        if arity == 1:
            extra[scope[0]] += weight * (table[1] - table[0])
            continue
        first, second = scope
        extra[first] += weight * (table[2] - table[0])
        extra[second] += weight * (table[3] - table[2])
        # What is left is due if the first value is 0 and the second one 1.
        capacities[second][first] += weight * (table[1] + table[2] - table[0] - table[3])
    for variable, more in enumerate(extra):
        capacities[source][variable] = max(0, -more)
        capacities[variable][sink] = max(0, more)
    return capacities
