"""The examples of the interface, as they stand there."""

import unittest

from templates.affine import equations
from templates.arcs import arc_domains, set_map
from templates.booleans import classes, kinds
from templates.clones import generated, polymorphisms, run_term
from templates.costs import least_cost, relaxed
from templates.counts import count_gap, map_count
from templates.formulas import definable, hull, tells
from templates.graphs import graph, odd_walk, two_sides
from templates.maps import core, maps
from templates.operations import breaks, keeps
from templates.pairs import pairs_of
from templates.powers import power, power_operation
from templates.refusals import arc_refusal, shows_pair_refusal
from templates.solving import conflict, count_solutions, refutation, solve, told_by
from templates.taylor import blocker, cyclic, siggers
from templates.texts import read, write
from templates.weights import is_submodular, least_by_cut
from tests.tools import told


class ExamplesTest(unittest.TestCase):

    def test_operations(self):
        lesser = (2, (0, 0, 0, 1))
        said = [keeps(2, lesser, (2, ((0, 0), (0, 1), (1, 1)))), breaks(2, lesser, (2, ((0, 1), (1, 0))))]
        self.assertEqual(said, [True, ((0, 1), (1, 0))])

    def test_texts(self):
        self.assertEqual(write((2, ((2, ((0, 1), (1, 0))), (1, ((1,),))))), "size 2\nrelation 2 01 10\nrelation 1 1")
        self.assertEqual(told(read, "size 2\nrelation 2 01 02"), ("InvalidText", {"line": 2, "word": 4}))

    def test_solving(self):
        unlike = (2, ((2, ((0, 1), (1, 0))),))
        ring = (3, ((0, (0, 1)), (0, (1, 2)), (0, (2, 0))))
        line = (3, ((0, (0, 1)), (0, (1, 2))))
        said = [solve(unlike, line), count_solutions(unlike, line), told_by(unlike, line, (0, 2)), conflict(unlike, ring),
                refutation(unlike, (1, ((0, (0, 0)),)))]
        self.assertEqual(said, [(0, 1, 0), 2, (2, ((0, 0), (1, 1))), (0, 1, 2), ("clash", 0)])

    def test_clones(self):
        said = [polymorphisms((2, ((2, ((0, 1), (1, 0))),)), 1), generated(2, ((2, (0, 0, 0, 1)),), 2)]
        self.assertEqual(said, [[(1, (0, 1)), (1, (1, 0))], [(2, (0, 0, 0, 1)), (2, (0, 0, 1, 1)), (2, (0, 1, 0, 1))]])
        self.assertEqual(run_term(2, ((2, (1, 1, 1, 0)),), 1, (("input", 0), ("apply", 0, (0, 0)))), (1, (1, 0)))

    def test_formulas(self):
        order = (2, ((2, ((0, 0), (0, 1), (1, 1))),))
        said = [tells(order, (2, 1, ((0, (0, 2)), (0, (1, 2)), (0, (2, 0))))), hull(order, (2, ((0, 1), (1, 0)))),
                definable(order, (1, ((0,),)))]
        self.assertEqual(said, [(2, ((0, 0), (1, 0), (1, 1))), (2, ((0, 0), (0, 1), (1, 0), (1, 1))), False])

    def test_pairs(self):
        unlike = (2, ((2, ((0, 1), (1, 0))),))
        said = [pairs_of(unlike, (2, ((0, (0, 1)),))), pairs_of(unlike, (3, ((0, (0, 1)), (0, (1, 2)), (0, (2, 0)))))]
        self.assertEqual(said, [(((0, 0), (1, 1)), ((0, 1), (1, 0)), ((0, 0), (1, 1))), None])

    def test_affine(self):
        self.assertEqual(equations(3, (2, ((0, 1), (1, 2), (2, 0)))), ((1, 2, 2),))

    def test_arcs(self):
        horn = (2, ((2, ((0, 0), (0, 1), (1, 1))), (1, ((1,),))))
        said = [arc_domains(horn, (3, ((1, (0,)), (0, (0, 1))))), set_map((2, ((2, ((0, 1), (1, 0))),)))]
        self.assertEqual(said, [((1,), (1,), (0, 1)), None])

    def test_refusals(self):
        only = (2, ((1, ((0,),)), (1, ((1,),))))
        steps = ((0, 0, 1, 1, "row", 0), (0, 0, 0, 0, "row", 1))
        said = [arc_refusal(only, (1, ((0, (0,)),))), shows_pair_refusal(only, (1, ((0, (0,)), (1, (0,)))), steps)]
        self.assertEqual(said, [None, True])

    def test_booleans(self):
        said = [kinds((2, ((2, ((0, 1), (1, 0))),))), classes(((2, (0, 0, 0, 1)), (2, (0, 1, 1, 1))))]
        self.assertEqual(said, [("majority", "sum"), ("zero", "one", "order")])

    def test_powers(self):
        unlike = (2, ((2, ((0, 1), (1, 0))),))
        said = [power(unlike, 2, ((4, 0, ((0, (1, 2)),)), (2, 0, ((0, (0, 1)),)))), power_operation(2, 2, (1, (1, 0)))]
        rows = ((0, 2), (0, 3), (1, 0), (1, 1), (2, 2), (2, 3), (3, 0), (3, 1))
        self.assertEqual(said, [(4, ((2, rows), (1, ((1,), (2,))))), (1, (3, 2, 1, 0))])

    def test_graphs(self):
        path = ((0, 1), (1, 2))
        ring = ((0, 1), (0, 2), (1, 2))
        said = [two_sides(3, path), odd_walk(3, path), odd_walk(3, ring), len(maps(graph(3, path), graph(3, ring))),
                len(core(graph(3, path))[0])]
        self.assertEqual(said, [(0, 1, 0), None, (0, 1, 2, 0), 12, 2])

    def test_taylor(self):
        hard = (2, ((3, ((0, 0, 1), (0, 1, 0), (1, 0, 0))),))
        said = [blocker(hard), siggers(hard), blocker((2, ((2, ((0, 0), (0, 1), (1, 1))),)))]
        self.assertEqual(said, [((0, 1), (0,)), None, None])
        self.assertEqual(told(cyclic, hard, 6), ("BadArity", {}))

    def test_weights(self):
        alike = (2, ((2, (1, 0, 0, 1)),))
        apart = (2, ((2, (0, 1, 1, 0)), (1, (0, 5))))
        ring = (3, ((0, (0, 1), 1), (0, (1, 2), 1), (0, (2, 0), 1)))
        said = [least_cost(alike, ring), relaxed(alike, ring)[0], is_submodular(alike),
                least_by_cut(apart, (2, ((0, (0, 1), 3), (1, (1,), 1))))]
        self.assertEqual(said, [(1, (0, 0, 1)), (0, 1), False, (0, (0, 0))])

    def test_counts(self):
        four = graph(4, ((0, 1), (0, 2), (0, 3), (1, 2), (1, 3), (2, 3)))
        said = [map_count(graph(3, ((0, 1), (0, 2), (1, 2))), four), count_gap(graph(2, ((0, 1),)), graph(2, ()))]
        self.assertEqual(said, [24, ((2, ((0, (0, 1)), (0, (1, 0)))), 2, 0)])


if __name__ == "__main__":
    unittest.main()
