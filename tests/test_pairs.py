"""Decomposed relations, and the pairs of instances (point 17)."""

import itertools
import random
import unittest

from templates.conditions import majority
from templates.errors import BadInstance, BadRelation, BadSize, BadTemplate
from templates.formulas import tells
from templates.pairs import is_decomposed, pairs_of
from tests.tools import (
    BAD_SIZES, ODD, bad_relations, check_any_value, check_bad, check_leftmost, plain_solutions, rows_of, some_instance,
    some_relations, some_template, told)

UNLIKE = (2, ((2, ((0, 1), (1, 0))),))
ORDER = (2, ((2, ((0, 0), (0, 1), (1, 1))),))
ALL_KINDS = (2, ((1, ((0,),)), (2, ((0, 1), (1, 0), (1, 1))), (3, ((0, 0, 1), (0, 1, 0), (1, 0, 0), (1, 1, 1))),
                 (4, ((0, 0, 0, 0), (0, 1, 0, 1), (1, 1, 1, 0)))))


def plain_is_decomposed(size, relation):
    arity, rows = relation
    for row in set(rows_of(size, arity)) - set(rows):
        if all(any((other[i], other[j]) == (row[i], row[j]) for other in rows)
               for i in range(arity) for j in range(arity)):
            return False
    return True


def has_support(pairs, scope, row, given):
    """Whether a row gives each variable one value, those given theirs, and each two variables a pair."""
    if any((given.get(k, value), value) != (value, value) for k, value in zip(scope, row)):
        return False
    return all((row[i], row[j]) in pairs[scope[i], scope[j]] for i in range(len(row)) for j in range(len(row)))


def plain_pairs(template, instance):
    """The sets of pairs that are left, by going through all reasons again and again."""
    size, relations = template
    count, constraints = instance
    pairs = {(u, v): {(a, b) for a, b in rows_of(size, 2) if u != v or a == b}
             for u in range(count) for v in range(count)}

    def is_taken(u, v, a, b):
        for index, scope in constraints:
            if u in scope and v in scope:
                if not any(has_support(pairs, scope, row, {u: a, v: b}) for row in relations[index][1]):
                    return True
        return any(not any((a, c) in pairs[u, w] and (b, c) in pairs[v, w] for c in range(size)) for w in range(count))

    while True:
        gone = [(u, v, a, b) for (u, v), held in pairs.items() for a, b in held if is_taken(u, v, a, b)]
        if not gone:
            return pairs
        for u, v, a, b in gone:
            pairs[u, v].discard((a, b))
            pairs[v, u].discard((b, a))


def plain_answer(template, instance):
    pairs = plain_pairs(template, instance)
    count = instance[0]
    told = tuple(tuple(sorted(pairs[u, v])) for u in range(count) for v in range(u, count))
    return None if () in told else told


def some_questions(many, seed):
    chance = random.Random(seed)
    for _ in range(many):
        size = chance.randint(1, 4)
        rows = {1: 1, 2: 3, 3: 5, 4: 8}[size]
        template = some_template(size, chance, chance.choice((rows, 2 * rows)))
        yield template, some_instance(template, chance.randint(0, 5), chance.randint(0, 7), chance)
    for _ in range(many):
        yield ALL_KINDS, some_instance(ALL_KINDS, chance.randint(1, 5), chance.randint(1, 6), chance)
    # Loose constraints of two variables, of which it takes several together to take a pair away.
    for _ in range(many):
        size = chance.randint(2, 4)
        loose = chance.sample(rows_of(size, 2), size * size - chance.randint(1, size))
        template = (size, ((2, tuple(sorted(loose))),))
        yield template, some_instance(template, chance.randint(2, 5), chance.randint(2, 9), chance)
        # Several such relations, so that two variables lose their pairs one after the other.
        loose = [chance.sample(rows_of(size, 2), max(1, size * size * chance.randint(5, 9) // 10)) for _ in range(3)]
        template = (size, tuple((2, tuple(sorted(rows))) for rows in loose))
        yield template, some_instance(template, chance.randint(4, 5), chance.randint(6, 12), chance)


class DecomposedTest(unittest.TestCase):

    def test_against_the_definition(self):
        chance = random.Random(1)
        seen = set()
        for size, arity in itertools.product(range(1, 5), repeat=2):
            for relation in some_relations(size, arity, chance, 12):
                expected = plain_is_decomposed(size, relation)
                seen.add((arity, expected))
                self.assertIs(is_decomposed(size, relation), expected)
        self.assertEqual(seen, {(1, True), (2, True), (3, True), (3, False), (4, True), (4, False)})

    def test_all_small_relations(self):
        rows = rows_of(2, 3)
        for many in range(9):
            for part in itertools.combinations(rows, many):
                self.assertIs(is_decomposed(2, (3, part)), plain_is_decomposed(2, (3, part)))

    def test_no_rows(self):
        for size, arity in itertools.product(range(1, 5), repeat=2):
            self.assertIs(is_decomposed(size, (arity, ())), True)

    def test_by_hand(self):
        self.assertIs(is_decomposed(2, (3, ((0, 0, 1), (0, 1, 0), (1, 0, 0)))), False)
        self.assertIs(is_decomposed(2, (3, ((0, 0, 0), (0, 0, 1), (0, 1, 0), (1, 0, 0)))), True)
        # Without the pairs of equal places the relation of two rows would seem to have others.
        self.assertIs(is_decomposed(3, (1, ((0,), (2,)))), True)

    def test_with_a_majority_polymorphism(self):
        chance = random.Random(2)
        many = 0
        for _ in range(300):
            template = some_template(chance.randint(2, 3), chance, 3)
            if not template[1] or majority(template) is None:
                continue
            many += 1
            atoms = some_instance(template, 5, chance.randint(1, 4), chance)[1]
            self.assertIs(is_decomposed(template[0], tells(template, (4, 1, atoms))), True)
        self.assertGreater(many, 50)


class PairsTest(unittest.TestCase):

    def test_against_a_plain_taking_away(self):
        seen = set()
        for template, instance in some_questions(120, 3):
            with self.subTest(template=template, instance=instance):
                expected = plain_answer(template, instance)
                seen.add(expected is None)
                self.assertEqual(pairs_of(template, instance), expected)
        self.assertEqual(seen, {True, False})

    def test_no_pair_of_a_solution_is_taken_away(self):
        for template, instance in some_questions(60, 4):
            left = pairs_of(template, instance)
            two = [(u, v) for u in range(instance[0]) for v in range(u, instance[0])]
            for values in plain_solutions(template, instance):
                for (u, v), held in zip(two, left):
                    self.assertIn((values[u], values[v]), held)

    def test_with_a_majority_polymorphism_each_pair_belongs_to_a_solution(self):
        many = 0
        for template, instance in some_questions(120, 5):
            kind, found = told(majority, template)
            if kind != "answer" or found is None:
                continue
            many += 1
            found = plain_solutions(template, instance)
            left = pairs_of(template, instance)
            self.assertIs(left is None, not found)
            if left is not None:
                two = [(u, v) for u in range(instance[0]) for v in range(u, instance[0])]
                for (u, v), held in zip(two, left):
                    self.assertEqual(set(held), {(values[u], values[v]) for values in found})
        self.assertGreater(many, 50)

    def test_no_constraints(self):
        for size, count in itertools.product(range(1, 5), (1, 2, 3, 16)):
            same = tuple((value, value) for value in range(size))
            expected = tuple(same if u == v else tuple(rows_of(size, 2)) for u in range(count) for v in range(u, count))
            self.assertEqual(pairs_of((size, ()), (count, ())), expected)

    def test_no_variables(self):
        for template in (UNLIKE, (4, ()), (1, ((1, ()),))):
            self.assertEqual(pairs_of(template, (0, ())), ())

    def test_variables_twice_in_a_scope(self):
        self.assertIsNone(pairs_of(UNLIKE, (1, ((0, (0, 0)),))))
        self.assertEqual(pairs_of(ORDER, (1, ((0, (0, 0)),))), (((0, 0), (1, 1)),))
        three = (3, ((3, ((0, 0, 1), (0, 1, 0), (2, 2, 0))),))
        self.assertEqual(pairs_of(three, (2, ((0, (0, 0, 1)),))), (((0, 0), (2, 2)), ((0, 1), (2, 0)), ((0, 0), (1, 1))))
        self.assertEqual(pairs_of(three, (2, ((0, (1, 0, 1)),))), (((1, 1),), ((1, 0),), ((0, 0),)))

    def test_by_hand(self):
        ring = (3, ((0, (0, 1)), (0, (1, 2)), (0, (2, 0))))
        self.assertIsNone(pairs_of(UNLIKE, ring))
        self.assertEqual(pairs_of(UNLIKE, (3, ring[1][:2])), (
            ((0, 0), (1, 1)), ((0, 1), (1, 0)), ((0, 0), (1, 1)), ((0, 0), (1, 1)), ((0, 1), (1, 0)), ((0, 0), (1, 1))))
        # Single values are told by the pairs of a variable with itself.
        horn = (2, ORDER[1] + ((1, ((1,),)),))
        self.assertEqual(pairs_of(horn, (2, ((0, (0, 1)), (1, (0,))))), (((1, 1),), ((1, 1),), ((1, 1),)))
        self.assertIsNone(pairs_of((2, ((1, ()),)), (2, ((0, (0,)),))))

    def test_pairs_are_not_enough_for_sums(self):
        even, odd = (tuple(row for row in rows_of(2, 3) if sum(row) % 2 == rest) for rest in (0, 1))
        instance = (3, ((0, (0, 1, 2)), (1, (0, 1, 2))))
        self.assertIsNotNone(pairs_of((2, ((3, even), (3, odd))), instance))
        self.assertEqual(plain_solutions((2, ((3, even), (3, odd))), instance), [])

    def test_many_variables(self):
        chance = random.Random(6)
        for many in (12, 16, 20) * 4:
            template = (4, tuple((2, tuple(sorted(chance.sample(rows_of(4, 2), 12)))) for _ in range(3)))
            instance = some_instance(template, 8, many, chance)
            self.assertEqual(pairs_of(template, instance), plain_answer(template, instance))
        chain = (16, tuple((0, (k, k + 1)) for k in range(15)))
        left = dict(zip(itertools.combinations_with_replacement(range(16), 2), pairs_of(UNLIKE, chain)))
        self.assertEqual({left[u, v] for u, v in left if (v - u) % 2}, {((0, 1), (1, 0))})
        self.assertEqual({left[u, v] for u, v in left if (v - u) % 2 == 0}, {((0, 0), (1, 1))})
        self.assertIsNone(pairs_of(UNLIKE, (16, chain[1] + ((0, (0, 14)),))))


class WrongValuesTest(unittest.TestCase):

    def test_sizes_and_relations(self):
        check_bad(self, is_decomposed, [2, (1, ())], 0, BAD_SIZES, BadSize)
        for size in range(1, 5):
            check_bad(self, is_decomposed, [size, None], 1, bad_relations(size), BadRelation)

    def test_leftmost_error(self):
        check_leftmost(self, is_decomposed, [2, (1, ())], [(0, BadSize, {}), ((7, ()), BadRelation, {})])
        wrong = [((2, (1,)), BadTemplate, {"index": 0}), ((1, ((0, (1, 1)),)), BadInstance, {"index": 0})]
        check_leftmost(self, pairs_of, [ORDER, (1, ())], wrong)

    def test_any_value(self):
        check_any_value(self, is_decomposed, [2, ORDER[1][0]])
        check_any_value(self, pairs_of, [ORDER, (3, ((0, (0, 1)),))], ODD + [(2, ((0, (0, True)),)), (17, ()), (1, (None,))])


if __name__ == "__main__":
    unittest.main()
