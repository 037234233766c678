"""Forks, compact relations and closures (point 18)."""

import itertools
import random
import unittest

from templates.conditions import maltsev
from templates.errors import BadOperation, BadRelation, BadSize
from templates.forks import closure, compact, forks
from templates.operations import keeps
from tests.tools import (
    BAD_SIZES, bad_operations, bad_relations, check_any_value, check_bad, check_leftmost, rows_of, some_operation,
    some_relation, some_relations, some_template, told)

LESSER = (2, (0, 0, 0, 1))
ORDER = (2, ((0, 0), (0, 1), (1, 1)))


def plain_forks(relation):
    """For each fork the ascending list of the pairs of rows that show it."""
    arity, rows = relation
    shown = {}
    for one, other in itertools.product(rows, repeat=2):
        for place in range(arity):
            if one[:place] == other[:place]:
                shown.setdefault((place, one[place], other[place]), []).append((one, other))
    return shown


def plain_closing(size, operation, relation):
    """The closing of the rows, by carrying all tuples of rows again and again."""
    arity, table = operation
    worth = dict(zip(rows_of(size, arity), table))
    rows = set(relation[1])
    while True:
        more = {tuple(worth[column] for column in zip(*chosen)) for chosen in itertools.product(rows, repeat=arity)}
        if more <= rows:
            return (relation[0], tuple(sorted(rows)))
        rows |= more


def some_questions(seed):
    chance = random.Random(seed)
    for size, arity in itertools.product(range(1, 5), repeat=2):
        for relation in some_relations(size, arity, chance, 4):
            yield size, relation
        for most in (1, 2, 3, 5):
            yield size, some_relation(size, arity, most, chance)


def maltsev_operations():
    """Operations m for which m(x, y, y) and m(y, y, x) are x."""
    for size in range(1, 5):
        yield size, (3, tuple((a - b + c) % size for a, b, c in rows_of(size, 3)))
        yield size, (3, tuple(c if a == b else a if b == c else min(a, b, c) for a, b, c in rows_of(size, 3)))
        yield size, (3, tuple(c if a == b else a for a, b, c in rows_of(size, 3)))
    yield 4, (3, tuple(a ^ b ^ c for a, b, c in rows_of(4, 3)))


class ForksTest(unittest.TestCase):

    def test_against_the_definition(self):
        for size, relation in some_questions(1):
            expected = tuple(sorted(plain_forks(relation)))
            self.assertEqual(forks(size, relation), expected)

    def test_by_hand(self):
        self.assertEqual(forks(2, ORDER), ((0, 0, 0), (0, 0, 1), (0, 1, 0), (0, 1, 1), (1, 0, 0), (1, 0, 1), (1, 1, 0), (1, 1, 1)))
        self.assertEqual(forks(2, (2, ((0, 1), (1, 0)))), ((0, 0, 0), (0, 0, 1), (0, 1, 0), (0, 1, 1), (1, 0, 0), (1, 1, 1)))
        self.assertEqual(forks(3, (3, ((0, 2, 1),))), ((0, 0, 0), (1, 2, 2), (2, 1, 1)))

    def test_no_rows(self):
        for size, arity in itertools.product(range(1, 5), repeat=2):
            self.assertEqual(forks(size, (arity, ())), ())
            self.assertEqual(compact(size, (arity, ())), (arity, ()))
            self.assertEqual(closure(size, (1, (0,) * size), (arity, ())), (arity, ()))


class CompactTest(unittest.TestCase):

    def test_against_the_definition(self):
        for size, relation in some_questions(2):
            rows = {row for pairs in plain_forks(relation).values() for row in min(pairs)}
            self.assertEqual(compact(size, relation), (relation[0], tuple(sorted(rows))))

    def test_by_hand(self):
        full = (2, tuple(rows_of(2, 2)))
        self.assertEqual(compact(2, full), (2, ((0, 0), (0, 1), (1, 0))))
        self.assertEqual(compact(3, (1, ((0,), (2,)))), (1, ((0,), (2,))))
        # The least pair of the fork at the last place, not those that follow it.
        rows = ((0, 0, 1), (0, 1, 0), (1, 0, 0), (1, 1, 1))
        self.assertEqual(compact(2, (3, rows)), (3, ((0, 0, 1), (0, 1, 0), (1, 0, 0))))

    def test_it_has_the_forks(self):
        for size, relation in some_questions(3):
            self.assertEqual(forks(size, compact(size, relation)), forks(size, relation))
            self.assertLessEqual(set(compact(size, relation)[1]), set(relation[1]))


class ClosureTest(unittest.TestCase):

    def test_against_a_plain_closing(self):
        chance = random.Random(4)
        for size, arity in itertools.product(range(1, 5), repeat=2):
            # The plain closing of very many rows by operations with three arguments takes too long.
            for many in (1, 2, 3) if size ** arity <= 81 else (1, 2):
                for most in (1, 2, 3):
                    operation = some_operation(size, many, chance)
                    relation = some_relation(size, arity, most, chance)
                    with self.subTest(size=size, operation=operation, relation=relation):
                        self.assertEqual(closure(size, operation, relation), plain_closing(size, operation, relation))

    def test_operations_that_keep_more(self):
        chance = random.Random(5)
        for size, arity in itertools.product((2, 3, 4), (1, 2, 3, 4)):
            operations = [(2, tuple(min(row) for row in rows_of(size, 2))), (2, tuple(max(row) for row in rows_of(size, 2))),
                          (1, tuple((value + 1) % size for value in range(size))),
                          (3, tuple(sorted(row)[1] for row in rows_of(size, 3))),
                          (2, tuple(row[1] for row in rows_of(size, 2))),
                          (3, tuple(row[0] if row[0] == row[1] else row[2] for row in rows_of(size, 3)))]
            for operation in operations:
                relation = some_relation(size, arity, 6, chance)
                made = closure(size, operation, relation)
                self.assertEqual(made, plain_closing(size, operation, relation))
                self.assertIs(keeps(size, operation, made), True)
                self.assertEqual(closure(size, operation, made), made)

    def test_by_hand(self):
        self.assertEqual(closure(2, LESSER, (2, ((0, 1), (1, 0)))), (2, ((0, 0), (0, 1), (1, 0))))
        self.assertEqual(closure(3, (1, (1, 2, 0)), (2, ((0, 1),))), (2, ((0, 1), (1, 2), (2, 0))))
        self.assertEqual(closure(4, (1, (1, 2, 3, 3)), (1, ((0,),))), (1, ((0,), (1,), (2,), (3,))))
        # The first row gives the first argument: a and not b.
        left = (2, (0, 0, 1, 0))
        self.assertEqual(closure(2, left, (2, ((0, 1), (1, 1)))), (2, ((0, 0), (0, 1), (1, 0), (1, 1))))
        self.assertEqual(closure(2, left, (1, ((0,),))), (1, ((0,),)))

    def test_of_many_arguments(self):
        chance = random.Random(6)
        for size, many in [(2, 8), (2, 5), (3, 5), (3, 4), (4, 4), (1, 8)]:
            operation = some_operation(size, many, chance)
            relation = some_relation(size, 2, 2, chance)
            self.assertEqual(closure(size, operation, relation), plain_closing(size, operation, relation))

    def test_great_relations(self):
        rows = rows_of(4, 4)
        self.assertEqual(closure(4, (2, tuple(max(row) for row in rows_of(4, 2))), (4, tuple(rows[1:]))), (4, tuple(rows[1:])))
        turned = (3, tuple((a - b + c) % 4 for a, b, c in rows_of(4, 3)))
        self.assertEqual(closure(4, turned, (4, tuple(rows[:1] + [rows[1], rows[4], rows[16], rows[64]]))), (4, tuple(rows)))

    def test_with_a_maltsev_operation_the_closure_of_compact_is_the_relation(self):
        chance = random.Random(7)
        for size, operation in maltsev_operations():
            for arity in range(1, 5):
                for most in (1, 2, 3, 5):
                    relation = closure(size, operation, some_relation(size, arity, most, chance))
                    self.assertEqual(closure(size, operation, compact(size, relation)), relation)

    def test_with_maltsev_polymorphisms(self):
        chance = random.Random(8)
        many = 0
        for _ in range(200):
            template = some_template(chance.randint(2, 4), chance, 3)
            kind, operation = told(maltsev, template)
            if kind == "answer" and operation is not None:
                for relation in template[1]:
                    many += 1
                    self.assertEqual(closure(template[0], operation, compact(template[0], relation)), relation)
        self.assertGreater(many, 50)


class WrongValuesTest(unittest.TestCase):

    def test_sizes(self):
        for function in (forks, compact):
            check_bad(self, function, [2, ORDER], 0, BAD_SIZES, BadSize)
        check_bad(self, closure, [2, LESSER, ORDER], 0, BAD_SIZES, BadSize)

    def test_relations_and_operations(self):
        for size in range(1, 5):
            for function in (forks, compact):
                check_bad(self, function, [size, None], 1, bad_relations(size), BadRelation)
            check_bad(self, closure, [size, (1, (0,) * size), None], 2, bad_relations(size), BadRelation)
            check_bad(self, closure, [size, None, (1, ())], 1, bad_operations(size), BadOperation)

    def test_leftmost_error(self):
        size, relation = (0, BadSize, {}), ((7, ()), BadRelation, {})
        for function in (forks, compact):
            check_leftmost(self, function, [2, ORDER], [size, relation])
        check_leftmost(self, closure, [2, LESSER, ORDER], [size, ((9, ()), BadOperation, {}), relation])

    def test_any_value(self):
        check_any_value(self, forks, [2, ORDER])
        check_any_value(self, compact, [2, ORDER])
        check_any_value(self, closure, [2, LESSER, ORDER])


if __name__ == "__main__":
    unittest.main()
