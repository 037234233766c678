"""Relations (point 2)."""

import itertools
import random
import unittest

from templates.errors import BadArity, BadPlaces, BadRelation, BadSize
from templates.relations import full, glued, meet, picked, product
from tests.tools import (
    BAD_SIZES, bad_places, bad_relations, check_any_value, check_bad, check_leftmost, rows_of, some_relations)

SIZES = range(1, 5)
ARITIES = range(1, 5)
BIT = (1, ((0,), (1,)))
PAIRS = (2, ((0, 0), (0, 1), (1, 1)))


class MadeRelationsTest(unittest.TestCase):

    def test_full(self):
        for size, arity in itertools.product(SIZES, ARITIES):
            self.assertEqual(full(size, arity), (arity, tuple(rows_of(size, arity))))
        self.assertEqual(full(2, 2), (2, ((0, 0), (0, 1), (1, 0), (1, 1))))
        self.assertEqual(len(full(4, 4)[1]), 256)

    def test_meet(self):
        chance = random.Random(1)
        for size, arity in itertools.product(SIZES, ARITIES):
            for one, other in itertools.product(some_relations(size, arity, chance), repeat=2):
                expected = tuple(sorted(set(one[1]) & set(other[1])))
                self.assertEqual(meet(size, one, other), (arity, expected))

    def test_product(self):
        chance = random.Random(2)
        for size, first, second in itertools.product(SIZES, ARITIES, ARITIES):
            if first + second > 4:
                continue
            for one in some_relations(size, first, chance, 2):
                for other in some_relations(size, second, chance, 2):
                    expected = tuple(sorted({a + b for a in one[1] for b in other[1]}))
                    self.assertEqual(product(size, one, other), (first + second, expected))

    def test_picked(self):
        chance = random.Random(3)
        for size, arity, many in itertools.product(SIZES, ARITIES, ARITIES):
            for relation in some_relations(size, arity, chance, 1):
                for places in itertools.product(range(arity), repeat=many):
                    expected = tuple(sorted({tuple(row[place] for place in places) for row in relation[1]}))
                    self.assertEqual(picked(size, relation, places), (many, expected))

    def test_picked_repeated_and_out_of_order(self):
        relation = (3, ((0, 1, 2), (1, 0, 0), (2, 0, 1)))
        self.assertEqual(picked(3, relation, (2, 0)), (2, ((0, 1), (1, 2), (2, 0))))
        self.assertEqual(picked(3, relation, (1, 1, 1, 1)), (4, ((0, 0, 0, 0), (1, 1, 1, 1))))
        self.assertEqual(picked(3, relation, (1,)), (1, ((0,), (1,))))

    def test_glued(self):
        chance = random.Random(4)
        for size, arity in itertools.product(SIZES, ARITIES):
            for relation in some_relations(size, arity, chance):
                for first, second in itertools.product(range(arity), repeat=2):
                    expected = tuple(row for row in relation[1] if row[first] == row[second])
                    self.assertEqual(glued(size, relation, (first, second)), (arity, expected))


class WrongValuesTest(unittest.TestCase):

    def test_sizes(self):
        calls = [(full, 2), (meet, BIT, BIT), (product, BIT, BIT), (picked, BIT, (0,)), (glued, BIT, (0, 0))]
        for function, *others in calls:
            check_bad(self, function, [2] + others, 0, BAD_SIZES, BadSize)

    def test_relations(self):
        for size in SIZES:
            one = (1, ((0,),))
            for place in (1, 2):
                check_bad(self, meet, [size, one, one], place, bad_relations(size), BadRelation)
                check_bad(self, product, [size, one, one], place, bad_relations(size), BadRelation)
            check_bad(self, picked, [size, one, (0,)], 1, bad_relations(size), BadRelation)
            check_bad(self, glued, [size, one, (0, 0)], 1, bad_relations(size), BadRelation)

    def test_arities(self):
        bad = [0, 5, -1, 10 ** 40, True, None, "1", (1,), [1], {}]
        check_bad(self, full, [2, 1], 1, bad, BadArity)
        check_bad(self, meet, [2, BIT, BIT], 2, [PAIRS, full(2, 3), (4, ())], BadArity)
        check_bad(self, meet, [2, PAIRS, PAIRS], 1, [BIT, (1, ())], BadArity)
        for first, second in itertools.product(ARITIES, repeat=2):
            if first + second > 4:
                check_bad(self, product, [2, (first, ()), None], 2, [(second, ()), full(2, second)], BadArity)

    def test_places(self):
        check_bad(self, picked, [2, PAIRS, (0,)], 2, bad_places(1, 4, 2), BadPlaces)
        check_bad(self, picked, [2, BIT, (0,)], 2, [(0, 1), (1,), (0, 0, 0, 0, 0), ()], BadPlaces)
        check_bad(self, glued, [2, PAIRS, (0, 0)], 2, bad_places(2, 2, 2), BadPlaces)
        check_bad(self, glued, [2, BIT, (0, 0)], 2, [(0, 1), (1, 0), (0,), (0, 0, 0)], BadPlaces)

    def test_leftmost_error(self):
        size, relation = (0, BadSize, {}), (7, BadRelation, {})
        check_leftmost(self, full, [2, 2], [size, (0, BadArity, {})])
        for function in (meet, product):
            check_leftmost(self, function, [2, BIT, BIT], [size, relation, relation])
            check_leftmost(self, function, [2, (4, ()), (3, ())], [size, relation, relation])
        for function in (picked, glued):
            check_leftmost(self, function, [2, PAIRS, (0, 0)], [size, relation, ((2, 2), BadPlaces, {})])

    def test_a_relation_of_another_size(self):
        check_bad(self, meet, [2, BIT, BIT], 0, [1], BadRelation)
        check_bad(self, picked, [2, BIT, (0,)], 0, [1], BadRelation)

    def test_any_value(self):
        check_any_value(self, full, [3, 2])
        check_any_value(self, meet, [2, PAIRS, PAIRS])
        check_any_value(self, product, [2, PAIRS, BIT])
        check_any_value(self, picked, [2, PAIRS, (1, 0)])
        check_any_value(self, glued, [2, PAIRS, (1, 0)])


if __name__ == "__main__":
    unittest.main()
