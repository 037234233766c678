"""What the tests of costs share: some costs and instances, and plain ways to work costs out."""

import itertools
from fractions import Fraction
from math import gcd

from tests.tools import DEEP, rows_of

BAD_COSTS = [None, 0, True, "", (), (2,), (2, (), ()), [2, ()], {2: ()}, (0, ()), (4, ()), (-1, ()), (True, ()), ("2", ()), (None, ()),
             ((2,), ()), (10 ** 40, ()), (2, None), (2, 0), (2, []), (2, {}), (2, "0"), (2, ((1, (0, 0)),) * 5), (2, (None,) * 5), DEEP]
BAD_INSTANCES = [None, 0, True, "", (), (2,), (2, (), ()), [2, ()], {2: ()}, (-1, ()), (9, ()), (True, ()), (False, ()), ("2", ()),
                 (None, ()), (10 ** 40, ()), (2, None), (2, 0), (2, []), (2, {}), (2, "0"), (2, ((0, (0, 1), 1),) * 41), (2, (None,) * 41), DEEP]


def bad_functions(size):
    """Values that are no cost functions of the size."""
    row = (0,) * size
    bad = [None, 0, True, "", (), (1,), (1, row, row), [1, row], {1: row}, (0, ()), (0, (0,)), (3, (0,) * size ** 3), (-1, row),
           (True, row), ("1", row), (None, row), ((1,), row), (10 ** 40, row), (1, None), (1, 0), (1, list(row)), (1, "0" * size), (1, {}),
           (1, row[1:]), (1, row + (0,)), (2, (0,) * (size * size + 1)), (2, (0,) * (size * size - 1)), (1, row[1:] + (1001,)),
           (1, row[1:] + (-1,)), (1, row[1:] + (True,)), (1, row[1:] + (False,)), (1, row[1:] + (None,)), (1, row[1:] + ("0",)),
           (1, row[1:] + ((0,),)), (1, row[1:] + (10 ** 40,)), (2, (0,) * (size * size - 1) + (1001,)), DEEP, (1, DEEP), (1, (DEEP,) * size)]
    return bad + ([(2, row)] if size > 1 else [])


BAD_TERMS = [None, 0, True, "", (), (0, (0, 1)), (0, (0, 1), 1, 1), [0, (0, 1), 1], {0: 1}, (2, (0, 1), 1), (-1, (0, 1), 1), (True, (0,), 1),
             (False, (0, 1), 1), (None, (0, 1), 1), ("0", (0, 1), 1), (10 ** 40, (0, 1), 1), (0, None, 1), (0, 0, 1), (0, [0, 1], 1),
             (0, (), 1), (0, (0,), 1), (0, (0, 1, 0), 1), (1, (0, 1), 1), (0, (0, 2), 1), (0, (-1, 0), 1), (0, (0, True), 1),
             (0, (False, 1), 1), (0, (0, None), 1), (0, (0, "1"), 1), (0, (0, 10 ** 40), 1), (0, (0, 1), 0), (0, (0, 1), -1),
             (0, (0, 1), True), (0, (0, 1), None), (0, (0, 1), "1"), (0, (0, 1), (1,)), (0, (0, 1), 1.0), (0, (0, 1), -(10 ** 40)), DEEP,
             (0, DEEP, 1), (0, (0, 1), DEEP), (DEEP, (0, 1), 1), (0, (DEEP, 1), 1)]


def some_costs(chance, size=None, many=None, most=None):
    size = size or chance.randint(1, 3)
    functions = []
    for _ in range(chance.randint(0, 4) if many is None else many):
        arity, top = chance.choice((1, 2, 2)), most or chance.choice((1, 2, 5, 1000))
        functions.append((arity, tuple(chance.randint(0, top) for _ in range(size ** arity))))
    return (size, tuple(functions))


def some_terms(costs, variables, many, chance, heaviest=3):
    terms = []
    for _ in range(many if costs[1] and variables else 0):
        index = chance.randrange(len(costs[1]))
        scope = tuple(chance.randrange(variables) for _ in range(costs[1][index][0]))
        terms.append((index, scope, chance.randint(1, heaviest)))
    return (variables, tuple(terms))


def cost_at(size, function, row):
    return dict(zip(rows_of(size, function[0]), function[1]))[tuple(row)]


def plain_cost(costs, instance, values):
    return sum(weight * cost_at(costs[0], costs[1][index], [values[k] for k in scope]) for index, scope, weight in instance[1])


def plain_least(costs, instance):
    """The least cost and the least assignment that has it, by going through all assignments."""
    return min((plain_cost(costs, instance, values), values) for values in rows_of(costs[0], instance[0]))


def is_ratio(value):
    return (isinstance(value, tuple) and len(value) == 2 and all(isinstance(part, int) for part in value)
            and value[1] > 0 and gcd(value[0], value[1]) == 1)


def fraction(ratio):
    return Fraction(ratio[0], ratio[1])


def plain_carried(size, table, firsts, seconds):
    """The least cost of shares of the rows of a term, by going through the shares that are 0 outside of a tree of rows."""
    found = []
    for tree in itertools.combinations(rows_of(size, 2), 2 * size - 1):
        shares = tree_shares(size, tree, firsts, seconds)
        if shares is not None and min(shares.values()) >= 0:
            found.append(sum(share * cost_at(size, (2, table), row) for row, share in shares.items()))
    return min(found)


def tree_shares(size, tree, firsts, seconds):
    """The shares of the rows of a tree that add up rightly; None if there are none, or the rows are no tree."""
    left = {(0, a): share for a, share in enumerate(firsts)}
    left.update({(1, b): share for b, share in enumerate(seconds)})
    rows, shares = list(tree), {}
    while rows:
        ends = {end: [row for row in rows if row[end[0]] == end[1]] for end in left}
        lone = [(end, found[0]) for end, found in ends.items() if len(found) == 1]
        if not lone:
            return None
        end, row = lone[0]
        shares[row] = left[end]
        left[0, row[0]] -= shares[row]
        left[1, row[1]] -= shares[row]
        rows.remove(row)
    return shares if not any(left.values()) else None


def plain_relaxed_cost(costs, instance, shares):
    """The least cost of a relaxed assignment with these shares of the values."""
    total = Fraction(0)
    for index, scope, weight in instance[1]:
        arity, table = costs[1][index]
        told = [[fraction(share) for share in shares[k]] for k in scope]
        if arity == 1:
            total += weight * sum(share * cost for share, cost in zip(told[0], table))
        else:
            total += weight * plain_carried(costs[0], table, told[0], told[1])
    return total
