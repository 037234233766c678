"""The relations that given operations keep (point 13)."""

import itertools
import random
import unittest

from templates.errors import BadArguments, BadArity, BadOperation, BadSize
from templates.invariants import invariants
from tests.tools import (
    BAD_SIZES, bad_operations, check_any_value, check_bad, check_leftmost, plain_breaks, rows_of, some_operation, told)

LESSER = (2, (0, 0, 0, 1))
TURN = (1, (1, 0))
ALLOWED = [(1, 1), (1, 2), (1, 3), (1, 4), (2, 1), (2, 2), (2, 3), (3, 1), (3, 2), (4, 1)]
REFUSED = [(2, 4), (3, 3), (3, 4), (4, 2), (4, 3), (4, 4)]


def all_relations(size, arity):
    """The ascending list of all relations of an arity."""
    rows = rows_of(size, arity)
    parts = [part for many in range(len(rows) + 1) for part in itertools.combinations(rows, many)]
    return sorted((arity, part) for part in parts)


def plain_invariants(size, operations, arity):
    return [relation for relation in all_relations(size, arity)
            if all(plain_breaks(size, operation, relation) is None for operation in operations)]


class InvariantsTest(unittest.TestCase):

    def test_against_all_sets_of_rows(self):
        chance = random.Random(1)
        most = {(2, 3): 2, (3, 2): 2, (4, 1): 3}
        for size, arity in ALLOWED:
            for _ in range(8):
                given = tuple(some_operation(size, chance.randint(1, most.get((size, arity), 3)), chance)
                              for _ in range(chance.randint(0, 3)))
                with self.subTest(size=size, arity=arity, given=given):
                    self.assertEqual(invariants(size, given, arity), plain_invariants(size, given, arity))

    def test_operations_that_keep_more(self):
        given = [(2, (LESSER,), 3), (2, (TURN,), 3), (2, ((3, (0, 1, 1, 0, 1, 0, 0, 1)),), 2),
                 (2, (LESSER, (2, (0, 1, 1, 1))), 3), (3, ((2, (0, 0, 0, 0, 1, 1, 0, 1, 2)),), 2),
                 (3, ((1, (1, 2, 0)), (1, (1, 0, 2))), 2), (4, ((2, (0,) * 5 + (1, 0, 1, 0, 0, 2, 2, 0, 1, 2, 3)),), 1)]
        for size, operations, arity in given:
            self.assertEqual(invariants(size, operations, arity), plain_invariants(size, operations, arity))

    def test_by_hand(self):
        self.assertEqual(invariants(2, (TURN,), 1), [(1, ()), (1, ((0,), (1,)))])
        self.assertEqual(invariants(2, ((1, (0, 0)),), 1), [(1, ()), (1, ((0,),)), (1, ((0,), (1,)))])
        self.assertEqual(invariants(1, (), 4), [(4, ()), (4, ((0, 0, 0, 0),))])

    def test_no_given_operations(self):
        for size, arity in ALLOWED:
            self.assertEqual(invariants(size, (), arity), all_relations(size, arity))
        self.assertEqual(len(invariants(3, (), 2)), 512)

    def test_known_numbers(self):
        # Families of sets with all meets of two; those that have all unions, too.
        self.assertEqual([len(invariants(2, (LESSER,), arity)) for arity in (1, 2, 3)], [4, 14, 122])
        self.assertEqual([len(invariants(2, (LESSER, (2, (0, 1, 1, 1))), arity)) for arity in (1, 2, 3)], [4, 13, 74])
        # No rows, and all shifted subspaces.
        minority = (3, (0, 1, 1, 0, 1, 0, 0, 1))
        self.assertEqual([len(invariants(2, (minority,), arity)) for arity in (1, 2, 3)], [4, 12, 52])

    def test_operations_of_many_arguments(self):
        threshold = (8, tuple(int(sum(row) >= 4) for row in rows_of(2, 8)))
        expected = [relation for relation in all_relations(2, 2) if plain_breaks(2, threshold, relation) is None]
        self.assertEqual(invariants(2, (threshold,) * 4, 2), expected)

    def test_greatest_arities(self):
        for size, arity in ALLOWED:
            self.assertEqual(told(invariants, size, (), arity)[0], "answer")
        for size, arity in REFUSED:
            for given in ((), ((1, (0,) * size),)):
                self.assertEqual(told(invariants, size, given, arity), ("TooMany", {"most": 512}))

    def test_list_is_new(self):
        invariants(2, (), 1).append(None)
        self.assertEqual(len(invariants(2, (), 1)), 4)


class WrongValuesTest(unittest.TestCase):

    def test_sizes(self):
        check_bad(self, invariants, [2, (), 1], 0, BAD_SIZES, BadSize)

    def test_given_operations(self):
        no_tuple = [None, 0, True, "", [], [LESSER], {}, {0: LESSER}, (LESSER,) * 5, (None,) * 5]
        check_bad(self, invariants, [2, None, 1], 1, no_tuple, BadArguments)
        bad = [(part,) for part in bad_operations(2)] + [(LESSER, None), (LESSER,) * 3 + ([1],), LESSER]
        check_bad(self, invariants, [2, None, 1], 1, bad, BadOperation)
        self.assertEqual(told(invariants, 2, (LESSER,) * 4, 1)[0], "answer")

    def test_arities(self):
        for size in range(1, 5):
            bad = [0, 5, -1, 10 ** 40, True, False, None, "1", (1,), [1], {}]
            check_bad(self, invariants, [size, (), None], 2, bad, BadArity)

    def test_leftmost_error(self):
        for given in (([LESSER], BadArguments, {}), ((LESSER, None), BadOperation, {})):
            check_leftmost(self, invariants, [2, (), 1], [(0, BadSize, {}), given, (True, BadArity, {})])

    def test_too_many_comes_last(self):
        self.assertEqual(told(invariants, 4, (None,), 4), ("BadOperation", {}))
        self.assertEqual(told(invariants, 4, [], 4), ("BadArguments", {}))
        self.assertEqual(told(invariants, 4, (), 5), ("BadArity", {}))

    def test_any_value(self):
        check_any_value(self, invariants, [2, (LESSER,), 2])


if __name__ == "__main__":
    unittest.main()
