"""Templates and instances (point 5)."""

import itertools
import random
import unittest

from templates.clones import polymorphisms
from templates.errors import BadInstance, BadNames, BadOperation, BadTemplate
from templates.solving import (
    conflict, count_solutions, refutation, shows_conflict, shows_refutation, solutions, solve, told_by)
from templates.structures import is_polymorphism, renamed, satisfies
from templates.texts import write
from tests.tools import (
    bad_names, bad_operations, bad_relations, check_any_value, check_bad, check_leftmost, plain_breaks,
    plain_solutions, rows_of, shown, some_instance, some_operation, some_template, told)

ORDER = (2, ((0, 0), (0, 1), (1, 1)))
ONE = (1, ((1,),))
HORN = (2, (ORDER, ONE))
CHAIN = (3, ((0, (0, 1)), (0, (1, 2)), (1, (0,))))

# Every function that has a template as its first argument, and right values for the others.
OF_TEMPLATES = [
    (satisfies, [CHAIN, (1, 1, 1)]), (is_polymorphism, [(2, (0, 0, 0, 1))]), (renamed, [(1, 0)]), (write, []),
    (solve, [CHAIN]), (solutions, [CHAIN]), (count_solutions, [CHAIN]), (refutation, [CHAIN]), (conflict, [CHAIN]),
    (shows_refutation, [CHAIN, None]), (shows_conflict, [CHAIN, None]), (told_by, [CHAIN, (0,)]), (polymorphisms, [1]),
]
OF_INSTANCES = [
    (satisfies, [(1, 1, 1)]), (solve, []), (solutions, []), (count_solutions, []), (refutation, []), (conflict, []),
    (shows_refutation, [None]), (shows_conflict, [None]), (told_by, [(0,)]),
]


class SatisfiesTest(unittest.TestCase):

    def test_against_the_definition(self):
        chance = random.Random(1)
        for _ in range(200):
            template = some_template(chance.randint(1, 3), chance)
            instance = some_instance(template, chance.randint(0, 3), chance.randint(0, 3), chance)
            right = plain_solutions(template, instance)
            for values in rows_of(template[0], instance[0]):
                self.assertIs(satisfies(template, instance, values), values in right)

    def test_any_value_is_told_apart(self):
        right = (1, 1, 1)
        self.assertIs(satisfies(HORN, CHAIN, right), True)
        for value in [None, True, 0, 7, "111", list(right), {0: 1}, (), (1, 1), (1, 1, 1, 1), (1, 1, True), (True,) * 3,
                      (1, 1, 2), (1, 1, -1), (1, 1, None), (1, 1, "1"), (1, 1, (1,)), (1, 1, 10 ** 5000), (right,)]:
            with self.subTest(value=shown(value)):
                self.assertIs(satisfies(HORN, CHAIN, value), False)

    def test_each_constraint_counts(self):
        self.assertIs(satisfies(HORN, CHAIN, (0, 0, 0)), False)
        self.assertIs(satisfies(HORN, CHAIN, (1, 1, 0)), False)
        self.assertIs(satisfies(HORN, CHAIN, (1, 0, 1)), False)

    def test_a_variable_twice_in_a_scope(self):
        unlike = (2, ((2, ((0, 1), (1, 0))),))
        self.assertIs(satisfies(unlike, (1, ((0, (0, 0)),)), (0,)), False)
        self.assertIs(satisfies(HORN, (1, ((0, (0, 0)),)), (0,)), True)

    def test_no_variables(self):
        self.assertIs(satisfies(HORN, (0, ()), ()), True)
        self.assertIs(satisfies(HORN, (0, ()), (0,)), False)
        self.assertIs(satisfies(HORN, (0, ()), []), False)


class PolymorphismTest(unittest.TestCase):

    def test_against_the_definition(self):
        chance = random.Random(2)
        for _ in range(300):
            size = chance.randint(1, 4)
            template = some_template(size, chance)
            operation = some_operation(size, chance.randint(1, 2), chance)
            right = all(plain_breaks(size, operation, relation) is None for relation in template[1])
            self.assertIs(is_polymorphism(template, operation), right)

    def test_all_relations_count(self):
        lesser, greater, turn = (2, (0, 0, 0, 1)), (2, (0, 1, 1, 1)), (1, (1, 0))
        self.assertIs(is_polymorphism(HORN, lesser), True)
        self.assertIs(is_polymorphism((2, (ORDER, (1, ((0,),)), ORDER)), turn), False)
        self.assertIs(is_polymorphism((2, (ORDER, (2, ((0, 1), (1, 0))))), greater), False)
        self.assertIs(is_polymorphism((2, ((2, ((0, 1), (1, 0))), ORDER)), turn), False)
        self.assertIs(is_polymorphism((2, ()), turn), True)


class RenamedTest(unittest.TestCase):

    def test_against_the_definition(self):
        chance = random.Random(3)
        for _ in range(60):
            size = chance.randint(1, 4)
            template = some_template(size, chance)
            for names in itertools.permutations(range(size)):
                expected = tuple((arity, tuple(sorted(tuple(names[value] for value in row) for row in rows)))
                                 for arity, rows in template[1])
                self.assertEqual(renamed(template, names), (size, expected))

    def test_by_hand(self):
        self.assertEqual(renamed(HORN, (1, 0)), (2, ((2, ((0, 0), (1, 0), (1, 1))), (1, ((0,),)))))
        three = (3, ((2, ((0, 1), (1, 2))),))
        self.assertEqual(renamed(three, (1, 2, 0)), (3, ((2, ((1, 2), (2, 0))),)))

    def test_names(self):
        for size in range(1, 5):
            check_bad(self, renamed, [(size, ()), tuple(range(size))], 1, bad_names(size), BadNames)


class BadTemplateTest(unittest.TestCase):

    def test_no_pair_of_a_size_and_relations(self):
        bad = [None, 0, True, "2", (), (2,), (2, (), ()), [2, ()], {2: ()}, (0, ()), (5, ()), (-1, ()), (10 ** 40, ()),
               (True, ()), ("2", ()), (None, ()), ((2,), ()), (2, None), (2, 0), (2, []), (2, [ORDER]), (2, {}),
               (2, (ORDER,) * 7), (2, (None,) * 7), (0, (None,)), (1, [None])]
        for function, others in OF_TEMPLATES:
            check_bad(self, function, [HORN] + others, 0, bad, BadTemplate, {"index": None})

    def test_the_first_thing_that_is_no_relation(self):
        for function, others in OF_TEMPLATES:
            for size in range(1, 5):
                bad = [(size, (relation,)) for relation in bad_relations(size)]
                check_bad(self, function, [None] + others, 0, bad, BadTemplate, {"index": 0})
            for index in range(6):
                some = (2, (ORDER,) * index + ((1, (True,)),) + (None,) * (5 - index))
                check_bad(self, function, [None] + others, 0, [some], BadTemplate, {"index": index})

    def test_six_relations(self):
        for many in range(7):
            self.assertIs(is_polymorphism((2, (ORDER,) * many), (1, (0, 1))), True)

    def test_relations_of_another_size(self):
        self.assertEqual(told(write, (1, (ORDER,))), ("BadTemplate", {"index": 0}))
        self.assertEqual(told(write, (2, (ORDER, (1, ((2,),))))), ("BadTemplate", {"index": 1}))


class BadInstanceTest(unittest.TestCase):

    def test_no_pair_of_variables_and_constraints(self):
        bad = [None, 0, True, "1", (), (1,), (1, (), ()), [1, ()], {1: ()}, (-1, ()), (17, ()), (10 ** 40, ()),
               (True, ()), (False, ()), ("1", ()), (None, ()), (1, None), (1, 0), (1, []), (1, [(1, (0,))]), (1, {}),
               (1, ((1, (0,)),) * 201), (1, (None,) * 201), (17, (None,))]
        for function, others in OF_INSTANCES:
            check_bad(self, function, [HORN, None] + others, 1, bad, BadInstance, {"index": None})

    def test_what_is_no_constraint(self):
        bad = [None, 0, True, "", (), (1,), (1, (0,), 0), [1, (0,)], {1: (0,)}, (2, (0,)), (-1, (0,)), (10 ** 40, (0,)),
               (True, (0,)), (False, (0, 0)), (None, (0,)), ("1", (0,)), (1, None), (1, 0), (1, [0]), (1, {0: 0}), (1, ()),
               (1, (0, 0)), (0, (0,)), (0, (0, 0, 0)), (1, (3,)), (1, (-1,)), (1, (10 ** 40,)), (1, (True,)),
               (1, (None,)), (1, ("0",)), (1, ((0,),)), (0, (0, 3)), (0, (0, False))]
        for function, others in OF_INSTANCES:
            values = [(3, (constraint,)) for constraint in bad]
            check_bad(self, function, [HORN, None] + others, 1, values, BadInstance, {"index": 0})

    def test_the_first_one(self):
        for function, others in OF_INSTANCES:
            for index in (1, 57, 199):
                some = (1, ((1, (0,)),) * index + ((2, (0,)),) + (None,) * (199 - index))
                check_bad(self, function, [HORN, None] + others, 1, [some], BadInstance, {"index": index})

    def test_no_relations_and_no_variables(self):
        self.assertEqual(told(solve, (2, ()), (1, ((0, (0,)),))), ("BadInstance", {"index": 0}))
        self.assertEqual(told(solve, (2, ()), (1, ((-1, (0,)),))), ("BadInstance", {"index": 0}))
        self.assertEqual(told(solve, HORN, (0, ((1, (0,)),))), ("BadInstance", {"index": 0}))
        self.assertEqual(told(solve, HORN, (0, ((1, ()),))), ("BadInstance", {"index": 0}))

    def test_the_bounds(self):
        values = (1,) * 16
        self.assertIs(satisfies(HORN, (16, ((1, (15,)),) * 200), values), True)
        self.assertIs(satisfies(HORN, (16, ((0, (15, 15)),) * 200), values), True)
        self.assertIs(satisfies(HORN, (0, ()), ()), True)


class WrongValuesTest(unittest.TestCase):

    def test_operations(self):
        for size in range(1, 5):
            check_bad(self, is_polymorphism, [(size, ()), None], 1, bad_operations(size), BadOperation)

    def test_leftmost_error(self):
        template, instance = ((2, (None,)), BadTemplate, {"index": 0}), ((17, ()), BadInstance, {"index": None})
        for function, others in OF_INSTANCES:
            check_leftmost(self, function, [HORN, CHAIN] + others, [template, instance] + [None] * len(others))
        check_leftmost(self, is_polymorphism, [HORN, (1, (0, 1))], [template, (None, BadOperation, {})])
        check_leftmost(self, renamed, [HORN, (0, 1)], [template, (None, BadNames, {})])

    def test_any_value(self):
        check_any_value(self, satisfies, [HORN, CHAIN, (1, 1, 1)])
        check_any_value(self, is_polymorphism, [HORN, (2, (0, 0, 0, 1))])
        check_any_value(self, renamed, [HORN, (1, 0)])


if __name__ == "__main__":
    unittest.main()
