"""Conditions on polymorphisms (point 16)."""

import itertools
import random
import unittest

from templates.conditions import find_operations, majority, maltsev
from templates.errors import BadCondition, BadTemplate
from templates.structures import is_polymorphism
from tests.tools import (
    DEEP, ODD, check_any_value, check_bad, check_leftmost, plain_breaks, rows_of, shown, some_template, told, value_at)

UNLIKE = (2, ((2, ((0, 1), (1, 0))),))
ORDER = (2, ((2, ((0, 0), (0, 1), (1, 1))),))
ONE_OF_THREE = (2, ((3, ((0, 0, 1), (0, 1, 0), (1, 0, 0))),))
MAJORITY = ((3,), (((0, (0, 0, 1)), 0), ((0, (0, 1, 0)), 0), ((0, (1, 0, 0)), 0)))
MALTSEV = ((3,), (((0, (0, 1, 1)), 0), ((0, (1, 1, 0)), 0)))
GREATEST = {1: 8, 2: 8, 3: 5, 4: 4}


def side_value(size, operations, side, values):
    if isinstance(side, int):
        return values[side]
    index, letters = side
    return value_at(size, operations[index], [values[letter] for letter in letters])


def meets(size, operations, condition):
    """Whether operations meet a condition, value by value."""
    return all(side_value(size, operations, one, values) == side_value(size, operations, other, values)
               for one, other in condition[1] for values in rows_of(size, 4))


def plain_polymorphisms(template, arity):
    size, relations = template
    return [(arity, table) for table in itertools.product(range(size), repeat=size ** arity)
            if all(plain_breaks(size, (arity, table), relation) is None for relation in relations)]


def plain_exists(template, condition):
    """Whether there are polymorphisms that meet a condition, by going through all tables."""
    choices = [plain_polymorphisms(template, arity) for arity in condition[0]]
    return any(meets(template[0], operations, condition) for operations in itertools.product(*choices))


def some_side(arities, letters, chance):
    if chance.random() < 0.3:
        return chance.randrange(letters)
    index = chance.randrange(len(arities))
    return (index, tuple(chance.randrange(letters) for _ in range(arities[index])))


def some_condition(arities, chance):
    letters = chance.randint(1, 4)
    many = chance.choice((0, 1, 1, 2, 2, 3, 5, 12))
    return (arities, tuple((some_side(arities, letters, chance), some_side(arities, letters, chance)) for _ in range(many)))


class FindOperationsTest(unittest.TestCase):

    def check_found(self, template, condition, found):
        self.assertIsInstance(found, tuple)
        self.assertEqual([operation[0] for operation in found], list(condition[0]))
        self.assertTrue(all(is_polymorphism(template, operation) for operation in found))
        self.assertTrue(meets(template[0], found, condition))

    def test_against_all_tables(self):
        chance = random.Random(1)
        seen = set()
        for size, arities, many in [(1, (1, 2, 1), 5), (1, (8,), 5), (2, (1,), 40), (2, (2,), 80), (2, (1, 2), 40), (2, (2, 2), 40),
                                    (2, (1, 1, 1), 30), (2, (2, 1, 2), 15), (2, (3,), 15), (3, (1,), 60), (3, (1, 1), 40),
                                    (4, (1,), 15)]:
            for _ in range(many):
                template, condition = some_template(size, chance, chance.choice((2, 3, 5))), some_condition(arities, chance)
                found = find_operations(template, condition)
                seen.add(found is None)
                with self.subTest(template=template, condition=condition):
                    self.assertIs(found is not None, plain_exists(template, condition))
                    if found is not None:
                        self.check_found(template, condition, found)
        self.assertEqual(seen, {True, False})

    def test_of_more_arguments(self):
        chance = random.Random(2)
        for size, arities in [(2, (4, 3)), (2, (5,)), (3, (3,)), (3, (2, 3)), (4, (2, 3)), (4, (3, 3, 3)), (3, (4,)), (4, (4,))]:
            for _ in range(12):
                template, condition = some_template(size, chance, 3), some_condition(arities, chance)
                kind, found = told(find_operations, template, condition)
                if kind == "TooMany":
                    self.assertEqual(found, {"most": 4000})
                elif found is not None:
                    self.check_found(template, condition, found)

    def test_no_equations(self):
        for size in range(1, 5):
            for arity in range(1, GREATEST[size] + 1):
                for arities in ((arity,), (arity, 1, arity)):
                    self.check_found((size, ()), (arities, ()), find_operations((size, ()), (arities, ())))
        self.check_found(ONE_OF_THREE, ((1, 2, 3), ()), find_operations(ONE_OF_THREE, ((1, 2, 3), ())))

    def test_both_sides_variables(self):
        for size in range(1, 5):
            template = (size, ())
            for one, other in itertools.product(range(4), repeat=2):
                found = find_operations(template, ((1,), ((one, other),)))
                self.assertIs(found is not None, one == other or size == 1)

    def test_sides_in_either_order(self):
        for equation in ((0, (0, (1, 0))), ((0, (1, 0)), 0)):
            self.assertEqual(find_operations((3, ()), ((2,), (equation,))), ((2, (0, 1, 2) * 3),))

    def test_two_unknown_operations_are_joined(self):
        # f(x, y) = g(y, x), and g is idempotent and, on values 0 and 1, the lesser one.
        template = (2, ((1, ((0,),)), (2, ((0, 0), (0, 1), (1, 0)))))
        condition = ((2, 2), (((0, (0, 1)), (1, (1, 0))), ((1, (0, 0)), 0), ((1, (0, 1)), (1, (1, 0)))))
        self.assertEqual(find_operations(template, condition), ((2, (0, 0, 0, 1)),) * 2)
        # An operation that is its own argument turned and turned again, and another one that is constant.
        condition = ((1, 1), (((0, (0,)), (1, (0,))), ((0, (0,)), (0, (1,)))))
        self.assertIsNone(find_operations(UNLIKE, condition))

    def test_condition_that_no_projections_meet(self):
        siggers = ((4,), (((0, (0, 1, 2, 0)), (0, (1, 0, 1, 2))), ((0, (0, 0, 0, 0)), 0)))
        self.assertIsNone(find_operations(ONE_OF_THREE, siggers))
        three = (3, ((2, tuple(row for row in rows_of(3, 2) if row[0] != row[1])),))
        self.assertIsNone(find_operations(three, siggers))
        for template in (UNLIKE, ORDER):
            self.check_found(template, siggers, find_operations(template, siggers))

    def test_variables_on_all_places(self):
        # Constant operations only: all values of f(x, y, z, w) are equal.
        condition = ((4,), (((0, (0, 1, 2, 3)), (0, (1, 2, 3, 0))), ((0, (0, 0, 0, 0)), (0, (0, 1, 2, 3)))))
        self.assertIsNone(find_operations((2, ((1, ((0,),)), (1, ((1,),)))), condition))
        self.assertEqual(find_operations((2, ((1, ((1,),)),)), condition), ((4, (1,) * 16),))


class WellKnownTest(unittest.TestCase):

    def check(self, function, template, condition):
        found = function(template)
        if found is not None:
            self.assertEqual(found[0], 3)
            self.assertTrue(is_polymorphism(template, found))
            self.assertTrue(meets(template[0], (found,), condition))
        return found is not None

    def test_against_all_tables(self):
        chance = random.Random(3)
        seen = set()
        for _ in range(60):
            template = some_template(2, chance, chance.choice((2, 3, 4, 6)))
            tables = plain_polymorphisms(template, 3)
            for function, condition in ((majority, MAJORITY), (maltsev, MALTSEV)):
                expected = any(meets(2, (operation,), condition) for operation in tables)
                seen.add((function, expected))
                with self.subTest(template=template, function=function.__name__):
                    self.assertIs(self.check(function, template, condition), expected)
        self.assertEqual(len(seen), 4)

    def test_known_templates(self):
        self.assertEqual([majority(template) for template in (UNLIKE, ORDER)], [(3, (0, 0, 0, 1, 0, 1, 1, 1))] * 2)
        self.assertEqual([majority(ONE_OF_THREE), maltsev(ONE_OF_THREE), maltsev(ORDER)], [None] * 3)
        even = (2, ((4, tuple(row for row in rows_of(2, 4) if sum(row) % 2 == 0)),))
        self.assertEqual([majority(even), maltsev(even)], [None, (3, (0, 1, 1, 0, 1, 0, 0, 1))])
        chain = (4, ((2, tuple(row for row in rows_of(4, 2) if row[0] <= row[1])), (1, ((0,), (3,)))))
        self.assertEqual((self.check(majority, chain, MAJORITY), maltsev(chain)), (True, None))
        turn = (3, ((2, ((0, 1), (1, 2), (2, 0))), (2, tuple(row for row in rows_of(3, 2) if row != (1, 1)))))
        self.assertIs(self.check(majority, turn, MAJORITY), majority(turn) is not None)
        sums = (4, ((3, tuple(row for row in rows_of(4, 3) if sum(row) % 4 == 0)),))
        self.assertIs(self.check(maltsev, (4, ((3, sums[1][0][1][:1]),)), MALTSEV), True)
        self.assertEqual(told(maltsev, sums), ("TooMany", {"most": 4000}))
        thirds = (3, ((3, tuple(row for row in rows_of(3, 3) if sum(row) % 3 == 1)),))
        self.assertEqual((self.check(maltsev, thirds, MALTSEV), majority(thirds)), (True, None))

    def test_relations_with_only_one_value(self):
        for function in (majority, maltsev):
            self.assertEqual(function((1, ((4, ((0,) * 4,)), (1, ())))), (3, (0,)))


class BoundsTest(unittest.TestCase):

    def test_12_equations(self):
        equation = ((0, (0, 1)), (0, (1, 0)))
        self.assertEqual(told(find_operations, ORDER, ((2,), (equation,) * 12))[0], "answer")
        self.assertEqual(told(find_operations, ORDER, ((2,), (equation,) * 13)), ("BadCondition", {"index": None}))

    def test_three_unknown_operations(self):
        self.assertEqual(len(find_operations(ORDER, ((1, 2, 3), ()))), 3)
        self.assertEqual(told(find_operations, ORDER, ((1, 1, 1, 1), ())), ("BadCondition", {"index": None}))
        self.assertEqual(told(find_operations, ORDER, ((), ())), ("BadCondition", {"index": None}))

    def test_4000(self):
        rows = rows_of(4, 4)
        just = (4, ((4, tuple(rows[:60])), (4, tuple(rows[-20:]))))
        more = (4, just[1] + ((1, ((0,),)),))
        self.assertEqual(told(find_operations, just, ((2,), ()))[0], "answer")
        self.assertEqual(told(find_operations, more, ((2,), ())), ("TooMany", {"most": 4000}))
        # The arities of all unknown operations count.
        self.assertEqual(told(find_operations, just, ((2, 1), ())), ("TooMany", {"most": 4000}))
        split = (4, ((4, tuple(rows[:44])), (1, ((0,), (1,), (2,)))))
        self.assertEqual(44 ** 2 * 2 + 3 ** 2 * 2 + 44 + 3, 3937)
        self.assertEqual(told(find_operations, split, ((2, 1, 2), ()))[0], "answer")
        # 15 * 15 * 15 and 5 * 5 * 5 five times over are just 4000.
        fifteen = ((2, tuple(rows_of(4, 2)[:15])),) + ((2, tuple(rows_of(4, 2)[-5:])),) * 5
        for function in (majority, maltsev):
            self.assertEqual(told(function, (4, fifteen))[0], "answer")
            more = fifteen[:5] + ((2, tuple(rows_of(4, 2)[-6:])),)
            self.assertEqual(told(function, (4, more)), ("TooMany", {"most": 4000}))
            self.assertEqual(told(function, (4, ((2, tuple(rows_of(4, 2))),))), ("TooMany", {"most": 4000}))

    def test_too_many_comes_last(self):
        great = (4, ((4, tuple(rows_of(4, 4))),))
        self.assertEqual(told(find_operations, great, ((4,), ((0, 4),))), ("BadCondition", {"index": 0}))
        self.assertEqual(told(find_operations, great, ((5,), ())), ("BadCondition", {"index": None}))
        # Too many rows are told even where no operation can meet the equations.
        self.assertEqual(told(find_operations, great, ((2,), ((0, 1),))), ("TooMany", {"most": 4000}))


class WrongConditionsTest(unittest.TestCase):

    def test_no_condition(self):
        equation = ((0, (0, 1)), 0)
        bad = [None, 0, True, "", (), ((2,),), ((2,), (), ()), [(2,), ()], {}, {0: (2,)}, (None, ()), (2, ()), ([2], ()), ({}, ()),
               ((True,), ()), ((0,), ()), ((-1,), ()), (("2",), ()), ((None,), ()), (((2,),), ()), ((2, None), ()),
               ((10 ** 40,), ()), ((2,), None), ((2,), []), ((2,), [equation]), ((2,), {}), ((2,), 0), ((2,), "0"),
               ((2,), (None,) * 13)]
        check_bad(self, find_operations, [ORDER, None], 1, bad, BadCondition, {"index": None})
        for size, most in GREATEST.items():
            for arity in (most + 1, 9):
                check_bad(self, find_operations, [(size, ()), None], 1, [((arity,), ()), ((1, arity), ())], BadCondition,
                          {"index": None})

    def test_what_is_no_pair_of_sides(self):
        sides = [None, True, False, 4, -1, 10 ** 40, "0", [], {}, (), (0,), (0, (0, 1), 0), [0, (0, 1)], (0, [0, 1]), (0, None),
                 (0, 0), (0, ()), (0, (0,)), (0, (0, 1, 2)), (2, (0, 1)), (-1, (0, 1)), (1, (0, 1)), (True, (0, 1)),
                 (False, (0, 1)), (None, (0, 1)), ("0", (0, 1)), ((0,), (0, 1)), (0, (0, 4)), (0, (0, -1)), (0, (0, True)),
                 (0, (False, 1)), (0, (0, None)), (0, ((0,), 1)), (0, (0, "1")), DEEP, (0, DEEP), (DEEP, (0, 1))]
        bad = [None, 0, True, "00", (), (0,), (0, 0, 0), [0, 0], {0: 0, 1: 1}, DEEP]
        bad += [(side, 0) for side in sides] + [((0, (0, 1)), side) for side in sides]
        for value in bad:
            with self.subTest(value=shown(value)):
                condition = ((2, 3), (((0, (0, 1)), 0), ((1, (3, 2, 1)), (0, (0, 0))), value, None))
                self.assertEqual(told(find_operations, ORDER, condition), ("BadCondition", {"index": 2}))
        for index in (0, 11):
            condition = ((1,), ((0, 0),) * index + ((0, (0, (0,)), 0),) + (None,) * (11 - index))
            self.assertEqual(told(find_operations, ORDER, condition), ("BadCondition", {"index": index}))

    def test_leftmost_error(self):
        for condition in (((2,), None), BadCondition, {"index": None}), (((2,), (1,)), BadCondition, {"index": 0}):
            check_leftmost(self, find_operations, [ORDER, ((2,), ())], [((2, (1,)), BadTemplate, {"index": 0}), condition])

    def test_any_value(self):
        odd = ODD + [((2,), ()), ((2,), ((0, 1),)), ((2,), (((0, (0, 1)), 0),)), ((2,), (((0, [0, 1]), 0),)), ((8,) * 3, ()), DEEP]
        check_any_value(self, find_operations, [ORDER, ((2,), (((0, (0, 1)), (0, (1, 0))),))], odd)
        check_any_value(self, majority, [ORDER])
        check_any_value(self, maltsev, [UNLIKE])


if __name__ == "__main__":
    unittest.main()
