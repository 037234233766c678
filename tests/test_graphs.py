"""Graphs on a few values (point 27)."""

import itertools
import random
import unittest

from templates.errors import BadGraph, BadSize
from templates.graphs import graph, odd_walk, shows_odd_walk, two_sides
from tests.tools import BAD_SIZES, DEEP, ODD, check_any_value, check_bad, check_leftmost, rows_of, shown, told

THREE = (graph, two_sides, odd_walk)
RING = ((0, 1), (0, 2), (1, 2))
PATH = ((0, 1), (1, 2))


def pairs_of_size(size):
    return [(a, b) for a in range(size) for b in range(a, size)]


def all_graphs():
    """All graphs of at most four nodes, with loops."""
    for size in range(1, 5):
        pairs = pairs_of_size(size)
        for many in range(len(pairs) + 1):
            for edges in itertools.combinations(pairs, many):
                yield size, edges


def joined(edges):
    return set(edges) | {(b, a) for a, b in edges}


def plain_two_sides(size, edges):
    """Sides by going on from the least value of each part."""
    sides = {}
    for start in range(size):
        if start not in sides:
            sides[start] = 0
            waiting = [start]
            for value in waiting:
                for a, b in joined(edges):
                    if a == value and b not in sides:
                        sides[b] = 1 - sides[value]
                        waiting.append(b)
    if any(sides[a] == sides[b] for a, b in edges):
        return None
    return tuple(sides[value] for value in range(size))


def is_plain_walk(edges, walk):
    return len(walk) % 2 == 0 and walk[0] == walk[-1] and all(step in joined(edges) for step in zip(walk, walk[1:]))


def plain_odd_walk(size, edges):
    """The least of the shortest walks of at most seven steps."""
    walks = [(value,) for value in range(size)]
    for _ in range(7):
        walks = [walk + (b,) for walk in walks for a, b in sorted(joined(edges)) if a == walk[-1]]
        closed = [walk for walk in walks if len(walk) % 2 == 0 and walk[0] == walk[-1]]
        if closed:
            return min(closed)
        if len(walks) > 5000:
            break
    return None


class GraphsTest(unittest.TestCase):

    def test_all_graphs_of_at_most_four_nodes(self):
        many = 0
        for size, edges in all_graphs():
            many += 1
            self.assertEqual(graph(size, edges), (size, ((2, tuple(sorted(joined(edges)))),)))
            sides, walk = two_sides(size, edges), odd_walk(size, edges)
            self.assertEqual(sides, plain_two_sides(size, edges), (size, edges))
            self.assertEqual(walk, plain_odd_walk(size, edges), (size, edges))
            self.assertIs(walk is None, sides is not None)
            if walk is not None:
                self.assertIs(shows_odd_walk(size, edges, walk), True)
        self.assertEqual(many, 2 + 8 + 64 + 1024)

    def test_by_hand(self):
        self.assertEqual([two_sides(3, PATH), odd_walk(3, PATH)], [(0, 1, 0), None])
        self.assertEqual([two_sides(3, RING), odd_walk(3, RING)], [None, (0, 1, 2, 0)])
        self.assertEqual([two_sides(4, ()), odd_walk(4, ())], [(0, 0, 0, 0), None])
        self.assertEqual([two_sides(4, ((1, 3),)), odd_walk(4, ((1, 3),))], [(0, 0, 0, 1), None])
        self.assertEqual(odd_walk(4, RING + ((3, 3),)), (3, 3))
        self.assertEqual(odd_walk(4, ((0, 3), (1, 2), (1, 3), (2, 3))), (1, 2, 3, 1))
        self.assertEqual([two_sides(1, ()), odd_walk(1, ()), odd_walk(1, ((0, 0),))], [(0,), None, (0, 0)])


class ShowsOddWalkTest(unittest.TestCase):

    def test_against_all_short_tuples(self):
        chance = random.Random(1)
        for size, edges in all_graphs():
            if size < 4 or chance.random() < 0.05:
                for length in range(0, 6):
                    for walk in rows_of(size, length):
                        right = length > 0 and is_plain_walk(edges, walk)
                        self.assertIs(shows_odd_walk(size, edges, walk), right, (size, edges, walk))

    def test_long_walks(self):
        self.assertIs(shows_odd_walk(3, RING, (0, 1, 2) * 333 + (0,)), True)
        self.assertIs(shows_odd_walk(3, RING, (0, 1, 2) * 334 + (0,)), False)
        self.assertIs(shows_odd_walk(3, RING, (0, 1) * 500 + (2, 0)), True)
        self.assertIs(shows_odd_walk(3, PATH, (0, 1) * 500), False)

    def test_bent_walks(self):
        self.assertIs(shows_odd_walk(3, RING, (1, 2, 0, 1)), True)
        bent = [(0,), (), (0, 0), (0, 1), (0, 1, 2), (0, 1, 0), (0, 1, 2, 1), (0, 1, 2, 0, 1), (0, 1, 1, 0), (0, 1, 3, 0), (0, 1, -1, 0),
                (0, True, 2, 0), (False, 1, 2, False), [0, 1, 2, 0], "0120", {0: 1}, None, True, 0, (0, 1, 2, "0"), (0, (1,), 2, 0),
                (0, 1, 2, 0, None), (0, 1.0, 2, 0), (0, 1, 10 ** 40, 0), DEEP, (DEEP,) * 4]
        for value in bent:
            with self.subTest(value=shown(value)):
                self.assertIs(shows_odd_walk(3, RING, value), False)

    def test_a_walk_of_one_value_is_none(self):
        for size, edges in [(1, ()), (1, ((0, 0),)), (3, RING)]:
            for value in range(size):
                self.assertIs(shows_odd_walk(size, edges, (value,)), False)
        self.assertIs(shows_odd_walk(1, ((0, 0),), (0, 0)), True)
        self.assertIs(shows_odd_walk(1, ((0, 0),), (0, 0, 0)), False)
        self.assertIs(shows_odd_walk(1, ((0, 0),), (0, 0, 0, 0)), True)

    def test_values_of_all_kinds(self):
        for size, edges in [(3, RING), (2, ()), (2, ((0, 0), (0, 1)))]:
            for value in ODD:
                right = shown(value) == "(0, 0)" and (0, 0) in edges
                self.assertIs(shows_odd_walk(size, edges, value), right, shown(value))


class WrongGraphsTest(unittest.TestCase):

    def test_edges(self):
        bad = [None, 0, True, "", [], [(0, 1)], {}, {(0, 1): 1}, (0, 1), ((0,),), ((0, 1, 2),), ([0, 1],), ((1, 0),), ((0, 1), (1, 0)),
               ((0, 1), (0, 1)), ((0, 2), (0, 1)), ((1, 1), (0, 0)), ((0, 3),), ((-1, 0),), ((0, True),), ((False, 1),), ((0, None),),
               ((0, "1"),), ((0, 1), None), ("01",), ((0, 10 ** 40),), ((0, (1,)),), DEEP, (DEEP,), (((0, 1),),), ({0: 1},), ((), ())]
        for function in THREE:
            check_bad(self, function, [3, None], 1, bad, BadGraph)
        check_bad(self, shows_odd_walk, [3, None, (0, 0)], 1, bad, BadGraph)
        for size in range(1, 5):
            for function in THREE:
                self.assertEqual(told(function, size, ((0, size),)), ("BadGraph", {}))
                self.assertEqual(told(function, size, tuple(pairs_of_size(size)))[0], "answer")

    def test_sizes(self):
        for function in THREE:
            check_bad(self, function, [None, ()], 0, BAD_SIZES, BadSize)
            check_leftmost(self, function, [3, RING], [(0, BadSize, {}), (None, BadGraph, {})])
        check_bad(self, shows_odd_walk, [None, (), (0, 0)], 0, BAD_SIZES, BadSize)
        check_leftmost(self, shows_odd_walk, [3, RING, None], [(0, BadSize, {}), ([], BadGraph, {}), None])

    def test_any_value(self):
        odd = ODD + [RING, ((0, 1),), ((0, 0),)]
        for function in THREE:
            check_any_value(self, function, [3, RING], odd)
        check_any_value(self, shows_odd_walk, [3, RING, (0, 1, 2, 0)], odd)


if __name__ == "__main__":
    unittest.main()
