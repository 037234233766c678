"""The names and arguments of the interface, each one defined in the file that lists it."""

import importlib
import inspect
import unittest

INTERFACE = {
    "relations": ["full(size, arity)", "meet(size, one, other)", "product(size, one, other)",
                  "picked(size, relation, places)", "glued(size, relation, places)"],
    "operations": ["apply(size, operation, arguments)", "projection(size, arity, place)",
                   "compose(size, operation, inner)", "renamed_operation(size, operation, names)",
                   "keeps(size, operation, relation)", "breaks(size, operation, relation)"],
    "structures": ["satisfies(template, instance, values)", "is_polymorphism(template, operation)",
                   "renamed(template, names)"],
    "texts": ["write(template)", "read(text)"],
    "solving": ["solve(template, instance)", "solutions(template, instance)", "count_solutions(template, instance)",
                "refutation(template, instance)", "conflict(template, instance)",
                "shows_refutation(template, instance, value)", "shows_conflict(template, instance, value)",
                "told_by(template, instance, variables)"],
    "clones": ["polymorphisms(template, arity)", "generated(size, operations, arity)",
               "term_for(size, operations, goal)", "run_term(size, operations, arity, term)"],
    "invariants": ["invariants(size, operations, arity)"],
    "formulas": ["tells(template, formula)", "hull(template, relation)", "hull_formula(template, relation)",
                 "definable(template, relation)", "shows_escape(template, relation, value)",
                 "formula_for(template, relation)", "escape(template, relation)"],
    "conditions": ["find_operations(template, condition)", "majority(template)", "maltsev(template)"],
    "pairs": ["is_decomposed(size, relation)", "pairs_of(template, instance)"],
    "forks": ["forks(size, relation)", "compact(size, relation)", "closure(size, operation, relation)"],
    "affine": ["is_affine(size, relation)", "equations(size, relation)", "count_affine(template, instance)"],
    "arcs": ["arc_domains(template, instance)", "is_acyclic(template, instance)", "set_map(template)",
             "shows_set_map(template, value)", "set_instance(template)"],
    "refusals": ["pair_refusal(template, instance)", "shows_pair_refusal(template, instance, value)",
                 "arc_refusal(template, instance)", "shows_arc_refusal(template, instance, value)"],
    "booleans": ["kinds(template)", "has_not(template)", "gadget(template)", "classes(operations)",
                 "nand_term(operations)"],
    "powers": ["power(template, many, formulas)", "unfolded(template, many, formulas, instance)",
               "power_operation(size, many, operation)"],
    "maps": ["maps(one, other)", "any_map(one, other)", "isomorphism(one, other)", "both_ways(one, other)",
             "times(one, other)", "as_instance(template)", "core(template)", "is_core(template)",
             "shows_core(template, value)"],
    "graphs": ["graph(size, edges)", "two_sides(size, edges)", "odd_walk(size, edges)",
               "shows_odd_walk(size, edges, value)"],
    "taylor": ["siggers(template)", "cyclic(template, arity)", "weak_pair(template)", "blocker(template)",
               "shows_blocker(template, value)"],
    "costs": ["least_cost(costs, instance)", "relaxed(costs, instance)"],
    "weights": ["weights(costs)", "shows_weights(costs, value)", "gap_instance(costs)", "is_submodular(costs)",
                "least_by_cut(costs, instance)"],
    "counts": ["map_count(one, other)", "onto_count(one, other)", "lone_count(one, other)", "folds(template)",
               "count_gap(one, other)"],
}


class InterfaceTest(unittest.TestCase):

    def test_functions(self):
        for name, functions in INTERFACE.items():
            module = importlib.import_module(f"templates.{name}")
            for text in functions:
                with self.subTest(module=name, function=text):
                    function = getattr(module, text.partition("(")[0])
                    self.assertTrue(inspect.isfunction(function))
                    self.assertEqual(function.__module__, module.__name__)
                    self.assertEqual(function.__name__ + str(inspect.signature(function)), text)


if __name__ == "__main__":
    unittest.main()
