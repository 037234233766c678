"""Least costs of assignments and of relaxed assignments (points 30 and 31)."""

import random
import unittest
from fractions import Fraction

from templates.costs import least_cost, relaxed
from templates.errors import BadCosts, BadTerms
from templates.relaxing import price_choices
from tests.costing import (
    BAD_COSTS, BAD_INSTANCES, BAD_TERMS, bad_functions, cost_at, fraction, is_ratio, plain_least, plain_relaxed_cost,
    some_costs, some_terms)
from tests.tools import ODD, check_any_value, check_bad, check_leftmost, rows_of, shown, told

ALIKE = (2, ((2, (1, 0, 0, 1)),))
RING = (3, ((0, (0, 1), 1), (0, (1, 2), 1), (0, (2, 0), 1)))
TWO = (2, ((2, (1, 0, 3, 1)), (1, (0, 5))))
BOTH = (least_cost, relaxed)


class LeastCostTest(unittest.TestCase):

    def test_against_all_assignments(self):
        chance = random.Random(1)
        for _ in range(400):
            costs = some_costs(chance)
            instance = some_terms(costs, chance.randint(0, 5), chance.randint(0, 12), chance, chance.choice((1, 4, 10 ** 30)))
            self.assertEqual(least_cost(costs, instance), plain_least(costs, instance), (costs, instance))

    def test_the_least_assignment(self):
        # Many assignments have the least cost.
        chance = random.Random(2)
        for _ in range(200):
            costs = some_costs(chance, None, 2, 1)
            instance = some_terms(costs, chance.randint(1, 5), chance.randint(0, 5), chance, 1)
            self.assertEqual(least_cost(costs, instance), plain_least(costs, instance))

    def test_nothing(self):
        for size in (1, 2, 3):
            self.assertEqual(least_cost((size, ()), (0, ())), (0, ()))
            self.assertEqual(least_cost((size, ()), (8, ())), (0, (0,) * 8))
            self.assertEqual(least_cost((size, ((1, (7,) * size),)), (3, ())), (0, (0, 0, 0)))
            self.assertEqual(least_cost((size, ((1, (7,) * size),)), (3, ((0, (2,), 3),))), (21, (0, 0, 0)))

    def test_a_variable_twice_and_equal_terms(self):
        self.assertEqual(least_cost(TWO, (1, ((0, (0, 0), 4),))), (4, (0,)))
        self.assertEqual(least_cost(TWO, (2, ((0, (0, 1), 1),) * 40)), (0, (0, 1)))
        self.assertEqual(least_cost(TWO, (2, ((0, (1, 0), 1), (1, (0,), 1), (0, (1, 0), 1)))), (2, (0, 0)))
        self.assertEqual(least_cost(ALIKE, RING), (1, (0, 0, 1)))

    def test_great_weights(self):
        great = 10 ** 60
        self.assertEqual(least_cost(TWO, (2, ((0, (0, 1), 1), (1, (1,), great)))), (1, (0, 0)))
        self.assertEqual(least_cost(TWO, (2, ((0, (0, 1), great), (1, (1,), 1)))), (5, (0, 1)))
        self.assertEqual(least_cost(TWO, (1, ((0, (0, 0), great), (0, (0, 0), 1)))), (great + 1, (0,)))

    def test_the_most(self):
        chance = random.Random(3)
        costs = some_costs(chance, 3, 4, 1000)
        instance = some_terms(costs, 8, 40, chance, 50)
        self.assertEqual(least_cost(costs, instance), plain_least(costs, instance))


class RelaxedTest(unittest.TestCase):

    def check_relaxed(self, costs, instance):
        """Judges all that is told; returns the cost."""
        answer = relaxed(costs, instance)
        self.assertEqual((type(answer), len(answer)), (tuple, 4))
        cost, shares, bounds, prices = answer
        self.assertTrue(is_ratio(cost))
        self.check_shares(costs[0], instance[0], shares)
        self.check_certificate(costs, instance, bounds, prices)
        self.assertEqual(sum([fraction(bound) for bound in bounds]), fraction(cost))
        self.assertEqual(plain_relaxed_cost(costs, instance, shares), fraction(cost))
        return fraction(cost)

    def check_shares(self, size, variables, shares):
        self.assertEqual((type(shares), len(shares)), (tuple, variables))
        for row in shares:
            self.assertEqual((type(row), len(row)), (tuple, size))
            self.assertTrue(all(is_ratio(share) and share[0] >= 0 for share in row))
            self.assertEqual(sum(fraction(share) for share in row), 1)

    def check_certificate(self, costs, instance, bounds, prices):
        size, functions = costs
        variables, terms = instance
        self.assertEqual((type(bounds), len(bounds), type(prices), len(prices)), (tuple, variables, tuple, len(terms)))
        self.assertTrue(all(is_ratio(bound) for bound in bounds))
        sums = [[Fraction(0)] * size for _ in range(variables)]
        for (index, scope, weight), told_prices in zip(terms, prices):
            self.assertEqual((type(told_prices), len(told_prices)), (tuple, len(scope)))
            for variable, row in zip(scope, told_prices):
                self.assertEqual((type(row), len(row), all(is_ratio(price) for price in row)), (tuple, size, True))
                sums[variable] = [old + fraction(price) for old, price in zip(sums[variable], row)]
            for row in rows_of(size, len(scope)):
                paid = sum(fraction(told_prices[place][value]) for place, value in enumerate(row))
                self.assertLessEqual(paid, weight * cost_at(size, functions[index], row))
        for bound, row in zip(bounds, sums):
            self.assertTrue(all(fraction(bound) <= price for price in row))

    def test_certificates(self):
        chance = random.Random(4)
        below = 0
        for _ in range(300):
            costs = some_costs(chance)
            instance = some_terms(costs, chance.randint(0, 6), chance.randint(0, 14), chance, chance.choice((1, 5, 10 ** 30)))
            cost = self.check_relaxed(costs, instance)
            least = plain_least(costs, instance)[0]
            self.assertLessEqual(cost, least)
            below += cost < least
        self.assertGreater(below, 15)

    def test_trees(self):
        chance = random.Random(5)
        for _ in range(120):
            costs = some_costs(chance, None, 3)
            variables = chance.randint(1, 6)
            terms = []
            for variable in range(variables):
                for index, (arity, _) in enumerate(costs[1]):
                    if arity == 1:
                        terms.append((index, (variable,), chance.randint(1, 5)))
                two = [index for index, (arity, _) in enumerate(costs[1]) if arity == 2]
                if variable and two:
                    scope = [variable, chance.randrange(variable)]
                    chance.shuffle(scope)
                    terms.append((chance.choice(two), tuple(scope), chance.randint(1, 5)))
            cost = self.check_relaxed(costs, (variables, tuple(terms)))
            self.assertEqual(cost, plain_least(costs, (variables, tuple(terms)))[0])

    def test_by_hand(self):
        self.assertEqual(self.check_relaxed(ALIKE, RING), 0)
        # A variable twice in a scope may have different values there, as far as the shares go.
        self.assertEqual(self.check_relaxed(ALIKE, (1, ((0, (0, 0), 1),))), 0)
        self.assertEqual(self.check_relaxed((2, ((2, (0, 4, 4, 0)), (1, (3, 0)), (1, (0, 3)))), (2, ((0, (0, 1), 1), (1, (0,), 1), (2, (1,), 1)))), 3)
        apart = (3, ((2, (6, 0, 0, 0, 6, 0, 0, 0, 6)),))
        four = (4, tuple((0, (a, b), 1) for a in range(4) for b in range(a)))
        self.assertEqual([self.check_relaxed(apart, four), plain_least(apart, four)[0]], [0, 6])

    def test_ratios(self):
        # Some of these costs are no integers.
        seen = set()
        chance = random.Random(6)
        for _ in range(200):
            costs = some_costs(chance, 3, 3, 3)
            instance = some_terms(costs, 4, 9, chance, 3)
            seen.add(self.check_relaxed(costs, instance).denominator)
        self.assertGreaterEqual(len(seen), 3)

    def test_equal_terms(self):
        for costs in (ALIKE, TWO):
            once = self.check_relaxed(costs, (2, ((0, (0, 1), 1), (0, (1, 0), 1), (0, (1, 1), 1))))
            self.assertEqual(self.check_relaxed(costs, (2, ((0, (0, 1), 1), (0, (1, 0), 1), (0, (1, 1), 1)) * 13)), 13 * once)
            self.assertEqual(self.check_relaxed(costs, (2, ((0, (0, 1), 13), (0, (1, 0), 13), (0, (1, 1), 13)))), 13 * once)

    def test_nothing(self):
        for size in (1, 2, 3):
            self.assertEqual(relaxed((size, ()), (0, ())), ((0, 1), (), (), ()))
            for variables in (1, 8):
                self.assertEqual(self.check_relaxed((size, ()), (variables, ())), 0)
                self.assertEqual(self.check_relaxed((size, ((2, (5,) * size ** 2),)), (variables, ())), 0)
            self.assertEqual(self.check_relaxed((size, ((2, (5,) * size ** 2),)), (2, ((0, (1, 1), 7),))), 35)

    def test_the_most(self):
        chance = random.Random(7)
        for size in (1, 2, 3):
            for most in (1, 3, 1000):
                for heaviest in (1, 100, 10 ** 40):
                    costs = some_costs(chance, size, 4, most)
                    self.check_relaxed(costs, some_terms(costs, 8, 40, chance, heaviest))

    def test_price_choices_reach_each_least_cost(self):
        chance = random.Random(8)
        for size in (1, 2, 3):
            for _ in range(30):
                table = tuple(chance.randint(0, chance.choice((1, 3, 9))) for _ in range(size * size))
                choices = price_choices(size, (2, table))
                # No more than what M. Balinski counts.
                self.assertLessEqual(len(choices), (0, 1, 2, 6)[size])
                self.assertEqual(len(choices), len(set(choices)))
                for firsts, seconds in choices:
                    self.assertTrue(all(firsts[a] + seconds[b] <= table[a * size + b] for a, b in rows_of(size, 2)))


class WrongCostsTest(unittest.TestCase):

    def test_costs(self):
        for function in BOTH:
            check_bad(self, function, [None, (0, ())], 0, BAD_COSTS, BadCosts, {"index": None})
            for size in (1, 2, 3):
                right = (1, (1000,) * size)
                for bad in bad_functions(size):
                    for index in range(4):
                        costs = (size, (right,) * index + (bad,) + (None,) * (3 - index))
                        self.assertEqual(told(function, costs, (0, ())), ("BadCosts", {"index": index}), shown(bad))

    def test_terms(self):
        for function in BOTH:
            check_bad(self, function, [TWO, None], 1, BAD_INSTANCES, BadTerms, {"index": None})
            for bad in BAD_TERMS:
                for index in (0, 1, 39):
                    terms = ((0, (0, 1), 1),) * index + (bad,) + (None,) * (39 - index)
                    self.assertEqual(told(function, TWO, (2, terms)), ("BadTerms", {"index": index}), shown(bad))
            self.assertEqual(told(function, (2, ()), (2, ((0, (0,), 1),))), ("BadTerms", {"index": 0}))
            self.assertEqual(told(function, ALIKE, (0, ((0, (0, 0), 1),))), ("BadTerms", {"index": 0}))

    def test_bounds(self):
        for function in BOTH:
            for top, kind in ((1000, "answer"), (1001, "BadCosts")):
                self.assertEqual(told(function, (2, ((1, (top, 0)),)), (0, ()))[0], kind)
            for variables, kind in ((8, "answer"), (9, "BadTerms")):
                self.assertEqual(told(function, TWO, (variables, ()))[0], kind)
            for many, kind in ((40, "answer"), (41, "BadTerms")):
                self.assertEqual(told(function, TWO, (2, ((0, (0, 1), 1),) * many))[0], kind)
            for weight, kind in ((1, "answer"), (0, "BadTerms"), (10 ** 5000, "answer")):
                self.assertEqual(told(function, TWO, (2, ((0, (0, 1), weight),)))[0], kind)
            for size, kind in ((3, "answer"), (4, "BadCosts")):
                self.assertEqual(told(function, (size, ()), (0, ()))[0], kind)
            for many, kind in ((4, "answer"), (5, "BadCosts")):
                self.assertEqual(told(function, (1, ((1, (0,)),) * many), (0, ()))[0], kind)

    def test_leftmost_error(self):
        for function in BOTH:
            for costs in ((None, BadCosts, {"index": None}), ((2, (TWO[1][0], None)), BadCosts, {"index": 1})):
                for instance in ((None, BadTerms, {"index": None}), ((1, (None,)), BadTerms, {"index": 0})):
                    check_leftmost(self, function, [TWO, (1, ())], [costs, instance])

    def test_any_value(self):
        odd = ODD + [(2, ((1, (0, 1)),)), (1, ((0, (0,), 1),)), (2, ((1, [0, 1]),)), (1, ((0, [0], 1),)), (1, ([0, (0,), 1],))]
        for function in BOTH:
            check_any_value(self, function, [TWO, (2, ((0, (0, 1), 2), (1, (1,), 1)))], odd)


if __name__ == "__main__":
    unittest.main()
