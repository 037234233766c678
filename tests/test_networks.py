"""The search for solutions, where it goes back over several choices."""

import random
import unittest

from templates.affine import count_affine
from templates.formulas import tells
from templates.networks import Network, pinned, solution, start
from templates.solving import solve
from templates.structures import satisfies
from templates.tables import TableStore
from tests.tools import rows_of

SUMS = {size: (size, tuple((3, tuple(row for row in rows_of(size, 3) if sum(row) % size == rest)) for rest in range(size)))
        for size in (2, 3)}
COLORS = (3, ((2, tuple(row for row in rows_of(3, 2) if row[0] != row[1])),))


def some_sums(size, variables, many, chance):
    return (variables, tuple((chance.randrange(size), tuple(chance.sample(range(variables), 3))) for _ in range(many)))


def plain_colors(count, edges, colors):
    """Whether so many things can have colors, joined ones different ones, the first ones having these."""
    if len(colors) == count:
        return True
    near = {colors[min(pair)] for pair in edges if max(pair) == len(colors) and min(pair) < max(pair)}
    return any(plain_colors(count, edges, colors + [color]) for color in range(3) if color not in near)


class SolutionTest(unittest.TestCase):

    def check_network(self, template, instance, expected):
        store = TableStore(template)
        network = Network(template[0], instance[0], [store.constraint(index, scope) for index, scope in instance[1]])
        masks = start(network)
        if masks is not None:
            masks = solution(network, masks)
        self.assertIs(masks is not None, expected)
        if masks is not None:
            values = tuple(mask.bit_length() - 1 for mask in masks)
            self.assertEqual([1 << value for value in values], masks)
            self.assertTrue(satisfies(template, instance, values))

    def test_sums(self):
        chance = random.Random(1)
        seen = set()
        for size, variables, low, high in [(2, 16, 10, 18), (3, 12, 8, 13)]:
            for _ in range(150):
                instance = some_sums(size, variables, chance.randint(low, high), chance)
                expected = count_affine(SUMS[size], instance) > 0
                seen.add((size, expected))
                with self.subTest(size=size, instance=instance):
                    self.check_network(SUMS[size], instance, expected)
                    self.assertIs(solve(SUMS[size], instance) is not None, expected)
        self.assertEqual(len(seen), 4)

    def test_colors(self):
        chance = random.Random(2)
        seen = set()
        for _ in range(200):
            edges = [tuple(chance.sample(range(12), 2)) for _ in range(chance.randint(22, 30))]
            expected = plain_colors(12, edges, [])
            seen.add(expected)
            instance = (12, tuple((0, edge) for edge in edges))
            self.check_network(COLORS, instance, expected)
            self.assertEqual(tells(COLORS, (1, 11, instance[1])), (1, ((0,), (1,), (2,)) if expected else ()))
        self.assertEqual(seen, {True, False})

    def test_pins(self):
        store = TableStore(COLORS)
        network = Network(3, 4, [store.constraint(0, (0, 1)), store.constraint(0, (1, 2))])
        self.assertEqual(pinned(network, [(0, 1), (2, 2)]), [2, 1, 4, 7])
        self.assertEqual(pinned(network, [(3, 0), (3, 0)]), [7, 7, 7, 1])
        self.assertIsNone(pinned(network, [(3, 0), (3, 1)]))
        self.assertIsNone(pinned(network, [(0, 1), (1, 1)]))

    def test_variables_that_nothing_touches(self):
        self.assertEqual(solution(Network(4, 3, []), [15, 12, 2]), [1, 4, 2])


if __name__ == "__main__":
    unittest.main()
