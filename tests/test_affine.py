"""Affine relations, their equations, and counting by elimination (point 19)."""

import itertools
import random
import unittest

from templates.affine import count_affine, equations, is_affine
from templates.errors import BadInstance, BadRelation, BadSize, BadTemplate, NotAffine
from templates.solving import count_solutions
from tests.tools import (
    BAD_SIZES, bad_relations, check_any_value, check_bad, check_leftmost, plain_breaks, plain_solutions, rows_of,
    some_instance, some_relations, told)

UNLIKE = (2, ((2, ((0, 1), (1, 0))),))
EVEN = (4, tuple(row for row in rows_of(2, 4) if sum(row) % 2 == 0))
TURN = (2, ((0, 1), (1, 2), (2, 0)))
ORDER = (2, ((0, 0), (0, 1), (1, 1)))


def meets(size, equation, row):
    *factors, due = equation
    return sum(factor * value for factor, value in zip(factors, row)) % size == due


def of_equations(size, arity, told_equations):
    """The relation of the solutions of equations."""
    return (arity, tuple(row for row in rows_of(size, arity) if all(meets(size, equation, row) for equation in told_equations)))


def some_affine(size, arity, chance):
    """A relation told by some equations, perhaps without rows."""
    return of_equations(size, arity, [tuple(chance.randrange(size) for _ in range(arity + 1)) for _ in range(chance.randint(0, arity))])


def affine_relations(seed, many):
    chance = random.Random(seed)
    for size, arity in itertools.product((2, 3), range(1, 5)):
        for _ in range(many):
            yield size, some_affine(size, arity, chance)


class IsAffineTest(unittest.TestCase):

    def test_against_the_operation(self):
        chance = random.Random(1)
        seen = set()
        for size, arity in itertools.product((2, 3), range(1, 5)):
            operation = (3, tuple((x - y + z) % size for x, y, z in rows_of(size, 3)))
            for relation in some_relations(size, arity, chance, 6) + [(arity, tuple(sorted(chance.sample(rows_of(size, arity), 2))))]:
                if len(relation[1]) > 30:
                    continue
                expected = plain_breaks(size, operation, relation) is None
                seen.add(expected)
                self.assertIs(is_affine(size, relation), expected)
        self.assertEqual(seen, {True, False})

    def test_all_small_relations(self):
        for size, arity in ((2, 3), (3, 2)):
            operation = (3, tuple((x - y + z) % size for x, y, z in rows_of(size, 3)))
            rows = rows_of(size, arity)
            for many in range(6):
                for part in itertools.combinations(rows, many):
                    self.assertIs(is_affine(size, (arity, part)), plain_breaks(size, operation, (arity, part)) is None)

    def test_solutions_of_equations(self):
        for size, relation in affine_relations(2, 12):
            self.assertIs(is_affine(size, relation), True)

    def test_by_hand(self):
        self.assertIs(is_affine(2, EVEN), True)
        self.assertIs(is_affine(2, ORDER), False)
        self.assertIs(is_affine(3, TURN), True)
        self.assertIs(is_affine(3, (1, ((0,), (1,)))), False)
        self.assertIs(is_affine(2, (1, ((0,), (1,)))), True)
        for size in (2, 3):
            self.assertIs(is_affine(size, (4, ())), True)
            self.assertIs(is_affine(size, (4, tuple(rows_of(size, 4)))), True)


class EquationsTest(unittest.TestCase):

    def check_form(self, size, arity, found):
        """Reduced echelon form."""
        self.assertIsInstance(found, tuple)
        firsts = []
        for equation in found:
            self.assertIsInstance(equation, tuple)
            self.assertEqual(len(equation), arity + 1)
            self.assertTrue(all(entry in range(size) for entry in equation))
            filled = [place for place in range(arity) if equation[place]]
            self.assertTrue(filled)
            self.assertEqual(equation[filled[0]], 1)
            firsts.append(filled[0])
        self.assertEqual(firsts, sorted(set(firsts)))
        for place in firsts:
            self.assertEqual(len([equation for equation in found if equation[place]]), 1)

    def test_the_rows_are_the_solutions(self):
        many = 0
        for size, relation in affine_relations(3, 25):
            if relation[1]:
                many += 1
                found = equations(size, relation)
                self.check_form(size, relation[0], found)
                self.assertEqual(of_equations(size, relation[0], found), relation)
                self.assertEqual(len(relation[1]) * size ** len(found), size ** relation[0])
        self.assertGreater(many, 100)

    def test_against_all_forms(self):
        # There is just one reduced echelon form: look for it among all tuples of equations.
        for size, arity in ((2, 2), (3, 1)):
            lines = rows_of(size, arity + 1)
            for many in range(arity + 1):
                for chosen in itertools.product(lines, repeat=many):
                    try:
                        self.check_form(size, arity, chosen)
                    except AssertionError:
                        continue
                    self.assertEqual(equations(size, of_equations(size, arity, chosen)), chosen)

    def test_all_rows(self):
        for size, arity in itertools.product((2, 3), range(1, 5)):
            self.assertEqual(equations(size, (arity, tuple(rows_of(size, arity)))), ())

    def test_one_row(self):
        self.assertEqual(equations(3, (3, ((2, 0, 1),))), ((1, 0, 0, 2), (0, 1, 0, 0), (0, 0, 1, 1)))

    def test_by_hand(self):
        self.assertEqual(equations(3, TURN), ((1, 2, 2),))
        self.assertEqual(equations(2, EVEN), ((1, 1, 1, 1, 0),))
        self.assertEqual(equations(2, UNLIKE[1][0]), ((1, 1, 1),))
        self.assertEqual(equations(2, (3, ((0, 1, 0), (0, 1, 1)))), ((1, 0, 0, 0), (0, 1, 0, 1)))
        self.assertEqual(equations(2, (3, ((0, 0, 1), (1, 1, 0)))), ((1, 0, 1, 1), (0, 1, 1, 1)))


class CountTest(unittest.TestCase):

    def test_against_all_solutions(self):
        chance = random.Random(4)
        seen = set()
        for _ in range(250):
            size = chance.choice((2, 3))
            relations = tuple(some_affine(size, chance.randint(1, 4), chance) for _ in range(chance.randint(1, 3)))
            template = (size, tuple(relation for relation in relations if relation[1]))
            instance = some_instance(template, chance.randint(0, 6), chance.randint(0, 6), chance)
            expected = len(plain_solutions(template, instance))
            seen.add(expected > 1)
            with self.subTest(template=template, instance=instance):
                self.assertEqual(count_affine(template, instance), expected)
                self.assertEqual(count_solutions(template, instance), expected)
        self.assertEqual(seen, {True, False})

    def test_long_chains(self):
        chain = tuple((0, (k, k + 1)) for k in range(15))
        turn = (3, (TURN,))
        self.assertEqual(count_affine(UNLIKE, (16, chain)), 2)
        self.assertEqual(count_affine(UNLIKE, (16, chain + ((0, (0, 14)),))), 0)
        self.assertEqual(count_affine(UNLIKE, (16, chain + ((0, (0, 15)),) * 185)), 2)
        self.assertEqual(count_affine(turn, (16, chain)), 3)
        self.assertEqual(count_affine(turn, (16, chain + ((0, (13, 0)),))), 0)
        self.assertEqual(count_affine(turn, (16, chain + ((0, (2, 0)),))), 3)
        sums = (2, (EVEN,))
        long = (16, tuple((0, (k, k + 1, k + 2, k + 3)) for k in range(13)))
        self.assertEqual(count_affine(sums, long), 8)
        self.assertEqual(count_affine(sums, long), count_solutions(sums, long))
        thirds = (3, ((4, tuple(row for row in rows_of(3, 4) if sum(row) % 3 == 1)),))
        self.assertEqual(count_affine(thirds, long), 27)

    def test_no_constraints(self):
        for size, variables in itertools.product((2, 3), (0, 1, 5, 16)):
            self.assertEqual(count_affine((size, ()), (variables, ())), size ** variables)

    def test_variables_twice_in_a_scope(self):
        self.assertEqual(count_affine(UNLIKE, (1, ((0, (0, 0)),))), 0)
        self.assertEqual(count_affine((2, (EVEN,)), (2, ((0, (0, 0, 1, 1)),))), 4)
        thirds = (3, ((3, tuple(row for row in rows_of(3, 3) if sum(row) % 3 == 1)),))
        self.assertEqual(count_affine(thirds, (1, ((0, (0, 0, 0)),))), 0)
        self.assertEqual(count_affine(thirds, (2, ((0, (0, 0, 1)),))), 3)


class WrongValuesTest(unittest.TestCase):

    def test_sizes(self):
        for function in (is_affine, equations):
            check_bad(self, function, [2, (1, ((0,),))], 0, BAD_SIZES + [1, 4], BadSize)
        for size in (1, 4):
            self.assertEqual(told(count_affine, (size, ()), (0, ())), ("BadSize", {}))
            self.assertEqual(told(count_affine, (size, ((1, ()),)), (1, ())), ("BadSize", {}))

    def test_relations(self):
        for size in (2, 3):
            check_bad(self, is_affine, [size, None], 1, bad_relations(size), BadRelation)
            check_bad(self, equations, [size, None], 1, bad_relations(size), BadRelation)

    def test_not_affine(self):
        bad = [(arity, ()) for arity in range(1, 5)] + [ORDER, (2, ((0, 0), (0, 1), (1, 0)))]
        check_bad(self, equations, [2, None], 1, bad, NotAffine)
        check_bad(self, equations, [3, None], 1, bad + [(1, ((0,), (1,))), UNLIKE[1][0]], NotAffine)
        for relation in bad:
            for template in ((2, (relation,)), (2, UNLIKE[1] + (relation,)), (3, (TURN, relation, TURN))):
                self.assertEqual(told(count_affine, template, (2, ())), ("NotAffine", {}))

    def test_order_of_the_errors(self):
        template, instance = ((2, (1,)), BadTemplate, {"index": 0}), ((2, ((0, (0, 2)),)), BadInstance, {"index": 0})
        check_leftmost(self, count_affine, [UNLIKE, (2, ())], [template, instance])
        for wrong in ((4, (ORDER,)), (1, ()), (2, (ORDER,)), (3, ((1, ()),))):
            self.assertEqual(told(count_affine, wrong, (17, ())), ("BadInstance", {"index": None}))
        self.assertEqual(told(count_affine, (4, (ORDER,)), (2, ((0, (0, 1)),))), ("BadSize", {}))
        for function in (is_affine, equations):
            check_leftmost(self, function, [2, (1, ((0,),))], [(4, BadSize, {}), ((7, ()), BadRelation, {})])

    def test_any_value(self):
        check_any_value(self, is_affine, [2, ORDER])
        check_any_value(self, equations, [3, TURN])
        check_any_value(self, count_affine, [UNLIKE, (3, ((0, (0, 1)),))])


if __name__ == "__main__":
    unittest.main()
