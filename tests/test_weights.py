"""Weights, instances with a gap, and least costs by cuts (points 32 and 33)."""

import itertools
import random
import unittest
from fractions import Fraction

from templates.costs import least_cost, relaxed
from templates.errors import BadCosts, BadTerms, NotBinary, NotSubmodular
from templates.weights import gap_instance, is_submodular, least_by_cut, shows_weights, weights
from tests.costing import (
    BAD_COSTS, BAD_INSTANCES, BAD_TERMS, bad_functions, cost_at, fraction, is_ratio, plain_least, some_costs, some_terms)
from tests.tools import DEEP, ODD, check_any_value, check_bad, check_leftmost, rows_of, shown, told

SYMMETRIC = [(2, (a, b, b, c)) for a, b, c in itertools.product((0, 1), repeat=3)]
LESSER, GREATER = (2, (0, 0, 0, 1)), (2, (0, 1, 1, 1))
ALIKE = (2, ((2, (1, 0, 0, 1)),))
APART = (2, ((2, (0, 1, 1, 0)), (1, (0, 5))))
HALF = (1, 2)
OF_COSTS = (weights, gap_instance, is_submodular)


def carried(operation, row, other):
    return tuple(operation[1][2 * a + b] for a, b in zip(row, other))


def are_plain_weights(costs, pairs):
    """Whether operations with fractions meet the definition, for each function and each two rows."""
    if sum(share for _, share in pairs) != 1:
        return False
    for function in costs[1]:
        for row, other in itertools.product(rows_of(2, function[0]), repeat=2):
            average = sum(share * cost_at(2, function, carried(operation, row, other)) for operation, share in pairs)
            if 2 * average > cost_at(2, function, row) + cost_at(2, function, other):
                return False
    return True


def some_binary(chance):
    return some_costs(chance, 2, chance.choice((1, 1, 2, 2, 3, 4)), chance.choice((1, 2, 3, 4, 1000)))


class WeightsTest(unittest.TestCase):

    def check_costs(self, costs):
        """Judges what is found; returns whether there are weights."""
        found, instance = weights(costs), gap_instance(costs)
        self.assertIs(found is None, instance is not None, costs)
        if found is None:
            self.check_gap(costs, instance)
        else:
            self.check_weights(costs, found)
        return found is not None

    def check_weights(self, costs, found):
        self.assertIsInstance(found, tuple)
        operations = [pair[0] for pair in found]
        self.assertTrue(all(len(pair) == 2 and pair[0] in SYMMETRIC and is_ratio(pair[1]) and pair[1][0] > 0 for pair in found))
        self.assertEqual(operations, sorted(set(operations)))
        self.assertTrue(are_plain_weights(costs, [(operation, fraction(share)) for operation, share in found]), costs)
        self.assertIs(shows_weights(costs, found), True)

    def check_gap(self, costs, instance):
        self.assertEqual((instance[0], told(least_cost, costs, instance)[0]), (3, "answer"))
        self.assertGreater(plain_least(costs, instance)[0], fraction(relaxed(costs, instance)[0]), costs)

    def test_all_costs_with_one_small_function(self):
        seen = [0, 0]
        for arity, most in ((1, 4), (2, 3)):
            for table in itertools.product(range(most + 1), repeat=2 ** arity):
                seen[self.check_costs((2, ((arity, table),)))] += 1
        self.assertGreater(min(seen), 30)

    def test_some_costs(self):
        chance = random.Random(1)
        seen = [0, 0]
        for _ in range(400):
            seen[self.check_costs(some_binary(chance))] += 1
        self.assertGreater(min(seen), 50)

    def test_there_are_weights_exactly_without_a_gap(self):
        chance = random.Random(2)
        for _ in range(150):
            costs = some_binary(chance)
            if weights(costs) is not None:
                for _ in range(3):
                    instance = some_terms(costs, chance.randint(1, 5), chance.randint(1, 9), chance)
                    self.assertEqual(relaxed(costs, instance)[0], (least_cost(costs, instance)[0], 1))

    def test_by_hand(self):
        self.assertTrue(self.check_costs((2, ())))
        self.assertTrue(self.check_costs(APART))
        self.assertFalse(self.check_costs(ALIKE))
        self.assertTrue(self.check_costs((2, ((1, (0, 5)), (1, (5, 0))))))
        # Half of each: neither the lesser nor the greater of two rows alone.
        self.assertEqual(weights((2, ((1, (0, 1)), (1, (1, 0)), (2, (0, 2, 2, 0))))), ((LESSER, HALF), (GREATER, HALF)))
        # Both values are the same to one function, and different ones to another.
        self.assertFalse(self.check_costs((2, ((2, (1, 0, 0, 1)), (2, (0, 1, 1, 0))))))

    def test_unary_costs_have_weights(self):
        chance = random.Random(3)
        for _ in range(60):
            costs = (2, tuple((1, (chance.randint(0, 9), chance.randint(0, 9))) for _ in range(4)))
            self.assertTrue(self.check_costs(costs))


class ShowsWeightsTest(unittest.TestCase):

    def test_against_the_definition(self):
        chance = random.Random(4)
        seen = [0, 0]
        for _ in range(1500):
            costs = some_binary(chance) if chance.random() < 0.5 else (2, some_binary(chance)[1][:1])
            operations = sorted(chance.sample(SYMMETRIC, chance.randint(1, 3)))
            parts = [chance.randint(1, 3) for _ in operations]
            shares = [Fraction(part, sum(parts)) for part in parts]
            value = tuple((operation, (share.numerator, share.denominator)) for operation, share in zip(operations, shares))
            right = are_plain_weights(costs, list(zip(operations, shares)))
            seen[right] += 1
            self.assertIs(shows_weights(costs, value), right, (costs, value))
        self.assertGreater(min(seen), 100)

    def test_each_two_rows_and_each_function(self):
        # The rows of one function that are carried too high are just these two.
        for bad in itertools.combinations_with_replacement(rows_of(2, 2), 2):
            for place in range(4):
                table = tuple(4 if row not in bad else 1 for row in rows_of(2, 2))
                functions = [(2, (0, 0, 0, 0))] * 4
                functions[place] = (2, table)
                for operation in SYMMETRIC:
                    right = are_plain_weights((2, tuple(functions)), [(operation, 1)])
                    self.assertIs(shows_weights((2, tuple(functions)), ((operation, (1, 1)),)), right)

    def test_a_row_with_itself(self):
        # The exchange of equal values is not dearer than the average for two different rows, but for two zeros.
        costs = (2, ((1, (0, 5)),))
        turned = (2, (1, 0, 0, 1))
        self.assertIs(shows_weights(costs, ((turned, (1, 1)),)), False)
        self.assertIs(shows_weights(costs, ((LESSER, (1, 1)),)), True)

    def test_bent_tuples(self):
        half = ((LESSER, HALF), (GREATER, HALF))
        self.assertIs(shows_weights(ALIKE, half), False)
        # These costs ask nothing, so that the form alone counts.
        costs = (2, ((2, (3, 3, 3, 3)), (1, (0, 0))))
        for right in (half, ((LESSER, (1, 1)),), ((LESSER, (1, 3)), (GREATER, (2, 3))), ((SYMMETRIC[0], (10 ** 40 - 1, 10 ** 40)), (LESSER, (1, 10 ** 40)))):
            self.assertIs(shows_weights(costs, right), True)
        great = 10 ** 40
        bent = [
            (half[1], half[0]), (half[0], half[0]), ((LESSER, (1, 4)), (LESSER, (3, 4))), (half[0],), half + ((SYMMETRIC[7], HALF),),
            ((LESSER, (2, 4)), (GREATER, HALF)), ((LESSER, (2, 2)),), ((LESSER, (0, 1)), (GREATER, (1, 1))), ((LESSER, (1, 1)), (GREATER, (0, 1))),
            ((LESSER, (-1, 2)), (GREATER, (3, 2))), ((LESSER, (1, -2)), (GREATER, (1, -2))), ((LESSER, (-1, -2)), (GREATER, HALF)),
            ((LESSER, (1, 0)),), ((LESSER, (0, 0)),), ((LESSER, (1, 2)), (GREATER, (1, 3))), ((LESSER, (1, great)), (GREATER, (1, 1))),
            (((2, (0, 0, 1, 1)), (1, 1)),), (((2, (0, 1, 0, 1)), (1, 1)),), (((1, (0, 1)), (1, 1)),), (((3, (0,) * 8), (1, 1)),),
            (((2, (0, 0, 0, 2)), (1, 1)),), (((2, (0, 0, 0, True)), (1, 1)),), (((2, [0, 0, 0, 1]), (1, 1)),), (([2, (0, 0, 0, 1)], (1, 1)),),
            ((LESSER, (True, 1)),), ((LESSER, (1, True)),), ((LESSER, [1, 1]),), ((LESSER, 1),), ((LESSER, (1,)),), ((LESSER, (1, 1, 1)),),
            ((LESSER, ("1", "1")),), ((LESSER, (None, None)),), ((LESSER, 1, 1),), ((LESSER, (1, 1), 0),), ([LESSER, (1, 1)],), [(LESSER, (1, 1))], (LESSER, (1, 1)),
            ((LESSER,),), (((1, 1), LESSER),), (), ((),), None, True, 0, "", {}, {LESSER: (1, 1)}, DEEP, ((DEEP, (1, 1)),), ((LESSER, DEEP),),
            ((LESSER, (1.0, 1)),), ((LESSER, (DEEP, DEEP)),), ((LESSER, HALF), None), (None, (LESSER, HALF)),
        ]
        for value in bent:
            with self.subTest(value=shown(value)):
                self.assertIs(shows_weights(costs, value), False)

    def test_values_of_all_kinds(self):
        for costs in (APART, ALIKE, (2, ())):
            for value in ODD:
                with self.subTest(value=shown(value)):
                    self.assertIs(shows_weights(costs, value), False)
                    self.assertIs(shows_weights(costs, (value,)), False)
                    right = costs == (2, ()) and shown(value) == shown(LESSER)
                    self.assertIs(shows_weights(costs, ((value, (1, 1)),)), right)
                    self.assertIs(shows_weights(costs, ((LESSER, value),)), False)


class SubmodularTest(unittest.TestCase):

    def plain(self, costs):
        for function in costs[1]:
            for row, other in itertools.product(rows_of(2, function[0]), repeat=2):
                low, high = tuple(map(min, row, other)), tuple(map(max, row, other))
                if cost_at(2, function, low) + cost_at(2, function, high) > cost_at(2, function, row) + cost_at(2, function, other):
                    return False
        return True

    def test_by_the_definition(self):
        seen = [0, 0]
        for arity in (1, 2):
            for table in itertools.product(range(4), repeat=2 ** arity):
                right = self.plain((2, ((arity, table),)))
                seen[right] += 1
                self.assertIs(is_submodular((2, ((arity, table),))), right)
        chance = random.Random(5)
        for _ in range(300):
            costs = some_binary(chance)
            self.assertIs(is_submodular(costs), self.plain(costs))
        self.assertGreater(min(seen), 50)
        self.assertIs(is_submodular((2, ())), True)

    def test_each_function_counts(self):
        right, wrong = (2, (0, 1, 0, 1)), (2, (1, 1, 0, 1))
        for place in range(4):
            self.assertIs(is_submodular((2, (right,) * place + (wrong,) + (right,) * (3 - place))), False)
        self.assertIs(is_submodular((2, (right,) * 4)), True)


def some_submodular(chance):
    functions = []
    for arity, table in some_binary(chance)[1]:
        if arity == 2 and table[0] + table[3] > table[1] + table[2]:
            table = (table[1], table[0], table[3], table[2])
        functions.append((arity, table))
    return (2, tuple(functions))


class LeastByCutTest(unittest.TestCase):

    def test_equal_to_least_cost(self):
        chance = random.Random(6)
        for _ in range(500):
            costs = some_submodular(chance)
            instance = some_terms(costs, chance.randint(0, 8), chance.randint(0, 25), chance, chance.choice((1, 4, 10 ** 40)))
            said = least_by_cut(costs, instance)
            self.assertEqual(said, least_cost(costs, instance), (costs, instance))
            if instance[0] < 6:
                self.assertEqual(said, plain_least(costs, instance))

    def test_the_least_assignment(self):
        # Costs of 0 and 1 have many assignments of the least cost.
        chance = random.Random(7)
        for _ in range(300):
            costs = some_submodular(random.Random(chance.random()))
            costs = (2, tuple((arity, tuple(min(cost, 1) for cost in table)) for arity, table in costs[1]))
            instance = some_terms(costs, chance.randint(1, 6), chance.randint(1, 6), chance, 1)
            if is_submodular(costs):
                self.assertEqual(least_by_cut(costs, instance), plain_least(costs, instance))

    def test_nothing(self):
        self.assertEqual(least_by_cut((2, ()), (0, ())), (0, ()))
        self.assertEqual(least_by_cut((2, ()), (8, ())), (0, (0,) * 8))
        self.assertEqual(least_by_cut(APART, (2, ((0, (0, 1), 3), (1, (1,), 1)))), (0, (0, 0)))
        self.assertEqual(least_by_cut((2, ((2, (3, 4, 4, 1)),)), (1, ((0, (0, 0), 2),))), (2, (1,)))

    def test_order_of_errors(self):
        wrong_costs = [(None, BadCosts, {"index": None}), ((2, (None,)), BadCosts, {"index": 0})]
        wrong_terms = [((9, ()), BadTerms, {"index": None}), ((1, (None,)), BadTerms, {"index": 0})]
        for costs in wrong_costs:
            for terms in wrong_terms:
                check_leftmost(self, least_by_cut, [APART, (1, ())], [costs, terms])
        for size in (1, 3):
            other = (size, ((2, (1,) + (0,) * (size * size - 2) + (1,) * (size > 1)),))
            self.assertEqual(told(least_by_cut, other, (9, ())), ("BadTerms", {"index": None}))
            self.assertEqual(told(least_by_cut, other, (1, ())), ("NotBinary", {}))
        self.assertEqual(told(least_by_cut, ALIKE, (1, (None,))), ("BadTerms", {"index": 0}))
        self.assertEqual(told(least_by_cut, ALIKE, (1, ())), ("NotSubmodular", {}))
        self.assertEqual(NotSubmodular.__name__, told(least_by_cut, ALIKE, RING)[0])
        self.assertEqual(told(least_by_cut, APART, (1, ())), ("answer", (0, (0,))))


RING = (3, ((0, (0, 1), 1), (0, (1, 2), 1), (0, (2, 0), 1)))


class WrongCostsTest(unittest.TestCase):

    def test_costs(self):
        for function in OF_COSTS:
            check_bad(self, function, [None], 0, BAD_COSTS, BadCosts, {"index": None})
        check_bad(self, shows_weights, [None, None], 0, BAD_COSTS, BadCosts, {"index": None})
        check_bad(self, least_by_cut, [None, (0, ())], 0, BAD_COSTS, BadCosts, {"index": None})
        for size in (1, 2, 3):
            for bad in bad_functions(size):
                costs = (size, ((1, (0,) * size), bad, None))
                for function, rest in [(function, []) for function in OF_COSTS] + [(shows_weights, [None]), (least_by_cut, [(0, ())])]:
                    self.assertEqual(told(function, costs, *rest), ("BadCosts", {"index": 1}), shown(bad))

    def test_terms(self):
        check_bad(self, least_by_cut, [APART, None], 1, BAD_INSTANCES, BadTerms, {"index": None})
        for bad in BAD_TERMS:
            said = told(least_by_cut, (2, ((2, (0, 1, 1, 0)), (1, (0, 5)))), (2, ((0, (0, 1), 1), bad, None)))
            self.assertEqual(said, ("BadTerms", {"index": 1}), shown(bad))

    def test_other_sizes(self):
        for size in (1, 3):
            for functions in ((), ((1, (0,) * size),)):
                for function in OF_COSTS:
                    self.assertEqual(told(function, (size, functions)), (NotBinary.__name__, {}))
                for value in (None, ((LESSER, (1, 1)),)):
                    self.assertEqual(told(shows_weights, (size, functions), value), ("NotBinary", {}))

    def test_any_value(self):
        odd = ODD + [APART, ALIKE, (2, ((1, [0, 1]),)), ((LESSER, (1, 1)),)]
        for function in OF_COSTS:
            check_any_value(self, function, [APART], odd)
        check_any_value(self, shows_weights, [APART, ((LESSER, (1, 1)),)], odd)
        check_any_value(self, least_by_cut, [APART, (2, ((0, (0, 1), 3),))], odd)


if __name__ == "__main__":
    unittest.main()
