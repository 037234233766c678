"""Constraints without the variables that need not be told."""

import itertools
import random
import unittest

from templates.eliminating import Elimination
from templates.networks import ascending
from tests.tools import rows_of


class EliminationTest(unittest.TestCase):

    def test_a_chain_becomes_one_constraint(self):
        unlike = [(0, 1), (1, 0)]
        elimination = Elimination(2, 257, [((k, k + 1), unlike) for k in range(256)])
        elimination.take_out(list(range(1, 256)))
        self.assertEqual(elimination.rows, {(0, 256): [(0, 0), (1, 1)]})

    def test_what_no_values_meet(self):
        elimination = Elimination(2, 3, [(pair, [(0, 1), (1, 0)]) for pair in itertools.combinations(range(3), 2)])
        elimination.take_out([2])
        self.assertIs(elimination.failed, True)

    def test_too_many_others_are_left_alone(self):
        star = [((k, 9), [(0, 0), (1, 1)]) for k in range(9)]
        elimination = Elimination(2, 10, star)
        elimination.take_out([9])
        self.assertEqual(elimination.rows, dict(star))

    def test_what_is_left_has_the_same_values(self):
        chance = random.Random(1)
        for _ in range(150):
            size, count = chance.randint(1, 3), chance.randint(2, 5)
            constraints = []
            for _ in range(chance.randint(0, 6)):
                scope = tuple(sorted(chance.sample(range(count), chance.randint(1, min(3, count)))))
                rows = rows_of(size, len(scope))
                constraints.append((scope, sorted(chance.sample(rows, chance.randint((len(rows) + 1) // 2, len(rows))))))
            told = chance.randint(1, count)
            expected = sorted({values[:told] for values in rows_of(size, count)
                               if all(tuple(values[k] for k in scope) in rows for scope, rows in constraints)})
            elimination = Elimination(size, count, constraints)
            elimination.take_out(list(range(told, count)))
            found = [] if elimination.failed else ascending(elimination.network(), list(range(told)), size ** told)
            self.assertEqual(found, expected)
            self.assertTrue(elimination.failed or all(max(scope) < told for scope in elimination.rows))


if __name__ == "__main__":
    unittest.main()
