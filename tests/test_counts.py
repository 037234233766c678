"""The numbers of maps between templates (point 34)."""

import itertools
import random
import unittest

from templates.counts import count_gap, folds, lone_count, map_count, onto_count
from templates.errors import BadShape, BadTemplate
from templates.graphs import graph
from templates.maps import isomorphism
from templates.structures import renamed
from tests.tools import (
    bad_relations, check_any_value, check_bad, check_leftmost, plain_solutions, rows_of, shown, some_relation, told)

UNLIKE = (2, ((2, ((0, 1), (1, 0))),))
ORDER = (2, ((2, ((0, 0), (0, 1), (1, 1))),))
OF_TWO = (map_count, onto_count, lone_count, count_gap)
BAD_TEMPLATES = [None, 0, True, "", (), (2,), (0, ()), (5, ()), (True, ()), (2, None), (2, []), [2, ()], {}, (2, ((1, ()),) * 7)]


def plain_maps(one, other):
    return [images for images in rows_of(other[0], one[0])
            if all(tuple(images[value] for value in row) in rows
                   for (_, told_rows), (_, rows) in zip(one[1], other[1]) for row in told_rows)]


def some_pair(chance, most=(2, 5, 12)):
    arities = [chance.randint(1, 4) for _ in range(chance.choice((0, 1, 1, 2, 3, 6)))]
    return [(chance.randint(1, 4), arities, chance.choice(most)) for _ in range(2)]


def some_pairs(many, seed):
    """Templates of the same shape, sometimes isomorphic ones."""
    chance = random.Random(seed)
    for at in range(many):
        one, other = [(size, tuple(some_relation(size, arity, most, chance) for arity in arities))
                      for size, arities, most in some_pair(chance)]
        yield one, other
        names = list(range(one[0]))
        chance.shuffle(names)
        if at % 4 == 0:
            yield one, renamed(one, tuple(names))


def plain_partitions(count):
    """The tuples of block numbers of all partitions, by putting each variable into a block."""
    parts = [[]]
    for _ in range(count):
        parts = [part + [number] for part in parts for number in range(len(set(part)) + 1)]
    return sorted(tuple(part) for part in parts)


def plain_folds(template):
    size, relations = template
    found = []
    for blocks in plain_partitions(size):
        constraints = {(index, tuple(blocks[value] for value in row))
                       for index, (_, rows) in enumerate(relations) for row in rows}
        found.append((len(set(blocks)), tuple(sorted(constraints))))
    return found


def plain_gap(one, other):
    for instance in plain_folds(one) + plain_folds(other):
        numbers = [len(plain_solutions(template, instance)) for template in (one, other)]
        if numbers[0] != numbers[1]:
            return (instance, numbers[0], numbers[1])
    return None


class CountsTest(unittest.TestCase):

    def test_against_the_listed_maps(self):
        seen = set()
        for one, other in some_pairs(400, 1):
            listed = plain_maps(one, other)
            onto = [images for images in listed if set(images) == set(range(other[0]))]
            lone = [images for images in listed if len(set(images)) == one[0]]
            said = (map_count(one, other), onto_count(one, other), lone_count(one, other))
            self.assertEqual(said, (len(listed), len(onto), len(lone)), (one, other))
            seen.add(tuple(number > 0 for number in said))
        self.assertEqual(seen, {(False,) * 3, (True,) * 3, (True, True, False), (True, False, True), (True, False, False)})

    def test_by_hand(self):
        four = graph(4, ((0, 1), (0, 2), (0, 3), (1, 2), (1, 3), (2, 3)))
        ring = graph(3, ((0, 1), (0, 2), (1, 2)))
        self.assertEqual([f(ring, four) for f in (map_count, onto_count, lone_count)], [24, 0, 24])
        self.assertEqual([f(four, ring) for f in (map_count, onto_count, lone_count)], [0, 0, 0])
        self.assertEqual([f((4, ()), (2, ())) for f in (map_count, onto_count, lone_count)], [16, 14, 0])
        self.assertEqual([f((2, ()), (4, ())) for f in (map_count, onto_count, lone_count)], [16, 0, 12])
        self.assertEqual([f((1, ()), (1, ())) for f in (map_count, onto_count, lone_count)], [1, 1, 1])

    def test_no_bound_for_the_numbers(self):
        great = (4, ((4, tuple(rows_of(4, 4))),))
        self.assertEqual([f(great, great) for f in (map_count, onto_count, lone_count)], [256, 24, 24])


class FoldsTest(unittest.TestCase):

    def test_against_plain_folds(self):
        for one, other in some_pairs(150, 2):
            for template in (one, other):
                if sum(len(rows) for _, rows in template[1]) <= 200:
                    self.assertEqual(folds(template), plain_folds(template))

    def test_all_partitions_in_ascending_order(self):
        for size, many in [(1, 1), (2, 2), (3, 5), (4, 15)]:
            template = (size, ((4, tuple(rows_of(size, 4))[:200]),))
            self.assertEqual(len(folds(template)), many)
            self.assertEqual([instance[0] for instance in folds((size, ()))], [len(set(part)) for part in plain_partitions(size)])
        cycle = (3, ((2, ((0, 1), (1, 2), (2, 0))),))
        self.assertEqual(folds(cycle), [
            (1, ((0, (0, 0)),)), (2, ((0, (0, 0)), (0, (0, 1)), (0, (1, 0)))), (2, ((0, (0, 0)), (0, (0, 1)), (0, (1, 0)))),
            (2, ((0, (0, 1)), (0, (1, 0)), (0, (1, 1)))), (3, ((0, (0, 1)), (0, (1, 2)), (0, (2, 0))))])

    def test_200_rows(self):
        rows = rows_of(4, 4)
        for parts, kind in [((200,), "answer"), ((201,), "TooMany"), ((100, 100), "answer"), ((100, 101), "TooMany"), ((256,) * 6, "TooMany")]:
            said = told(folds, (4, tuple((4, tuple(rows[:part])) for part in parts)))
            self.assertEqual(said[0], kind)
            if kind == "TooMany":
                self.assertEqual(said[1], {"most": 200})

    def test_returned_lists_are_new(self):
        found = folds(ORDER)
        right = list(found)
        found.clear()
        self.assertEqual(folds(ORDER), right)


class CountGapTest(unittest.TestCase):

    def test_the_first_that_differs(self):
        seen = set()
        for one, other in some_pairs(250, 3):
            if all(sum(len(rows) for _, rows in template[1]) <= 200 for template in (one, other)):
                right = plain_gap(one, other)
                self.assertEqual(count_gap(one, other), right, (one, other))
                # L. Lovasz: there is none just where the templates are isomorphic.
                self.assertIs(isomorphism(one, other) is not None, right is None)
                seen.add((right is None, one[0] == other[0]))
        self.assertEqual(seen, {(True, True), (False, True), (False, False)})

    def test_folds_of_the_other_one_come_second(self):
        # No fold of the one without rows tells them apart.
        one, other = (2, ((2, ()),)), UNLIKE
        self.assertEqual(count_gap(one, other), ((2, ((0, (0, 1)), (0, (1, 0)))), 0, 2))
        self.assertEqual(count_gap(other, one), ((2, ((0, (0, 1)), (0, (1, 0)))), 2, 0))

    def test_sizes_that_differ(self):
        for size, other in itertools.product(range(1, 5), repeat=2):
            right = None if size == other else ((1, ()), size, other)
            self.assertEqual(count_gap((size, ()), (other, ())), right)

    def test_all_pairs_of_small_graphs(self):
        pairs = [(a, b) for a in range(3) for b in range(a, 3)]
        every = [graph(size, edges) for size in (1, 2, 3) for many in range(4)
                 for edges in itertools.combinations([pair for pair in pairs if pair[1] < size], many)]
        for one, other in itertools.product(every, repeat=2):
            self.assertIs(count_gap(one, other) is None, isomorphism(one, other) is not None)

    def test_200_rows(self):
        rows = tuple(rows_of(4, 4))
        right, great = (4, ((4, rows[:200]),)), (4, ((4, rows[:201]),))
        self.assertIsNone(count_gap(right, right))
        self.assertEqual(told(count_gap, right, (4, ((4, rows[1:201]),)))[0], "answer")
        for one, other in [(right, great), (great, right), (great, great), (great, renamed(great, (3, 2, 1, 0))), ((4, ((4, ()),)), great)]:
            self.assertEqual(told(count_gap, one, other), ("TooMany", {"most": 200}))


class WrongTemplatesTest(unittest.TestCase):

    def test_templates(self):
        for function in OF_TWO:
            for place in (0, 1):
                check_bad(self, function, [UNLIKE, UNLIKE], place, BAD_TEMPLATES, BadTemplate, {"index": None})
                for bad in bad_relations(2)[::2]:
                    arguments = [UNLIKE, UNLIKE]
                    arguments[place] = (2, ((1, ()), bad, None))
                    self.assertEqual(told(function, *arguments), ("BadTemplate", {"index": 1}), shown(bad))
            check_leftmost(self, function, [UNLIKE, UNLIKE], [((2, (None,)), BadTemplate, {"index": 0}), ((7, ()), BadTemplate, {"index": None})])
        check_bad(self, folds, [None], 0, BAD_TEMPLATES, BadTemplate, {"index": None})

    def test_shapes(self):
        shapes = [(), (1,), (2,), (1, 2), (2, 1), (1, 1), (2, 2, 2)]
        great = (4, ((4, tuple(rows_of(4, 4))),))
        for function in OF_TWO:
            for one, other in itertools.product(shapes, repeat=2):
                said = told(function, (2, tuple((arity, ()) for arity in one)), (1, tuple((arity, ()) for arity in other)))
                self.assertEqual(said[0], "answer" if one == other else BadShape.__name__)
            self.assertEqual(told(function, great, UNLIKE), ("BadShape", {}))
            self.assertEqual(told(function, UNLIKE, great), ("BadShape", {}))

    def test_any_value(self):
        for function in OF_TWO:
            check_any_value(self, function, [UNLIKE, ORDER])
        check_any_value(self, folds, [ORDER])


if __name__ == "__main__":
    unittest.main()
