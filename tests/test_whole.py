"""What holds over the whole program (point 1)."""

import copy
import importlib
import itertools
import random
import unittest

from templates import errors
from tests.test_interface import INTERFACE
from tests.tools import ODD, shown, told

SIZE = (2, 9, "BadSize", {})
RELATION = ((2, ((0, 1), (1, 0))), (2, ((1, 0), (0, 1))), "BadRelation", {})
OPERATION = ((2, (0, 0, 0, 1)), (2, (0, 0, 0, 2)), "BadOperation", {})
TEMPLATE = ((2, ((2, ((0, 1), (1, 0))),)), (2, ((1, ()), (1, (0,)))), "BadTemplate", {"index": 1})
INSTANCE = ((2, ((0, (0, 1)),)), (2, ((0, (0, 1)), (0, (0, 2)))), "BadInstance", {"index": 1})
ARITY = (2, True, "BadArity", {})
VALUE = (None, None, None, None)
GIVEN = (((2, (0, 0, 0, 1)),), ((2, (0, 0, 0, 1)), (2, (0, 0))), "BadOperation", {})
MANY_GIVEN = (((2, (0, 0, 0, 1)),), [], "BadArguments", {})
FORMULA = ((2, 0, ((0, (0, 1)),)), (2, 0, ((0, (0, 1)), ("same", (0, 2)))), "BadFormula", {"index": 1})
CONDITION = (((2,), ((0, 0),)), ((2,), ((0, 0), (0, 4))), "BadCondition", {"index": 1})
TERM = ((("input", 0),), (("input", 0), ("apply", 0, (0, 1))), "BadTerm", {"index": 1})
FORMULAS = (((2, 0, ((0, (0, 1)),)),), ((2, 0, ()), (3, 0, ())), "BadFormulas", {"index": 1})
POWER_INSTANCE = ((1, ((0, (0,)),)), (1, ((0, (0,)), (0, (0, 0)))), "BadInstance", {"index": 1})
EDGES = (((0, 1),), ((1, 0),), "BadGraph", {})
COSTS = ((2, ((1, (0, 1)),)), (2, ((1, (0, 1)), (1, (0, 1001)))), "BadCosts", {"index": 1})
TERMS = ((1, ((0, (0,), 1),)), (1, ((0, (0,), 1), (0, (0,), 0))), "BadTerms", {"index": 1})
PLACES = ((0, 1), (0, 2), "BadPlaces", {})
NAMES = ((1, 0), (0, 0), "BadNames", {})
WALK = ((0, 1, 0), None, None, None)

# Each argument of each function: a right value, a wrong one, and the error that it raises; None where any value is right.
ARGUMENTS = {
    "full": [SIZE, ARITY], "meet": [SIZE, RELATION, RELATION], "product": [SIZE, RELATION, RELATION],
    "picked": [SIZE, RELATION, PLACES], "glued": [SIZE, RELATION, PLACES],
    "apply": [SIZE, OPERATION, ((0, 1), (0,), "BadArguments", {})], "projection": [SIZE, ARITY, (1, 2, "BadPlaces", {})],
    "compose": [SIZE, OPERATION, (((1, (0, 1)), (1, (1, 1))), ((1, (0, 1)),), "BadArguments", {})],
    "renamed_operation": [SIZE, OPERATION, NAMES], "keeps": [SIZE, OPERATION, RELATION], "breaks": [SIZE, OPERATION, RELATION],
    "satisfies": [TEMPLATE, INSTANCE, VALUE], "is_polymorphism": [TEMPLATE, OPERATION], "renamed": [TEMPLATE, NAMES],
    "write": [TEMPLATE], "read": [("size 2", "size 2\nrelation 1 0 2", "InvalidText", {"line": 2, "word": 4})],
    "solve": [TEMPLATE, INSTANCE], "solutions": [TEMPLATE, INSTANCE], "count_solutions": [TEMPLATE, INSTANCE],
    "refutation": [TEMPLATE, INSTANCE], "conflict": [TEMPLATE, INSTANCE], "shows_refutation": [TEMPLATE, INSTANCE, VALUE],
    "shows_conflict": [TEMPLATE, INSTANCE, VALUE], "told_by": [TEMPLATE, INSTANCE, PLACES],
    "polymorphisms": [TEMPLATE, ARITY], "generated": [SIZE, GIVEN, ARITY], "term_for": [SIZE, GIVEN, OPERATION],
    "run_term": [SIZE, GIVEN, ARITY, TERM], "invariants": [SIZE, MANY_GIVEN, ARITY],
    "tells": [TEMPLATE, FORMULA], "hull": [TEMPLATE, RELATION], "hull_formula": [TEMPLATE, RELATION],
    "definable": [TEMPLATE, RELATION], "shows_escape": [TEMPLATE, RELATION, VALUE], "formula_for": [TEMPLATE, RELATION],
    "escape": [TEMPLATE, RELATION], "find_operations": [TEMPLATE, CONDITION], "majority": [TEMPLATE], "maltsev": [TEMPLATE],
    "is_decomposed": [SIZE, RELATION], "pairs_of": [TEMPLATE, INSTANCE], "forks": [SIZE, RELATION], "compact": [SIZE, RELATION],
    "closure": [SIZE, OPERATION, RELATION], "is_affine": [SIZE, RELATION], "equations": [SIZE, RELATION],
    "count_affine": [TEMPLATE, INSTANCE], "arc_domains": [TEMPLATE, INSTANCE], "is_acyclic": [TEMPLATE, INSTANCE],
    "set_map": [TEMPLATE], "shows_set_map": [TEMPLATE, VALUE], "set_instance": [TEMPLATE],
    "pair_refusal": [TEMPLATE, INSTANCE], "shows_pair_refusal": [TEMPLATE, INSTANCE, VALUE],
    "arc_refusal": [TEMPLATE, INSTANCE], "shows_arc_refusal": [TEMPLATE, INSTANCE, VALUE],
    "kinds": [TEMPLATE], "has_not": [TEMPLATE], "gadget": [TEMPLATE], "classes": [GIVEN], "nand_term": [MANY_GIVEN],
    "power": [TEMPLATE, ARITY, FORMULAS], "unfolded": [TEMPLATE, ARITY, FORMULAS, POWER_INSTANCE],
    "power_operation": [SIZE, ARITY, OPERATION], "maps": [TEMPLATE, TEMPLATE], "any_map": [TEMPLATE, TEMPLATE],
    "isomorphism": [TEMPLATE, TEMPLATE], "both_ways": [TEMPLATE, TEMPLATE], "times": [TEMPLATE, TEMPLATE],
    "as_instance": [TEMPLATE], "core": [TEMPLATE], "is_core": [TEMPLATE], "shows_core": [TEMPLATE, VALUE],
    "graph": [SIZE, EDGES], "two_sides": [SIZE, EDGES], "odd_walk": [SIZE, EDGES], "shows_odd_walk": [SIZE, EDGES, WALK],
    "siggers": [TEMPLATE], "cyclic": [TEMPLATE, ARITY], "weak_pair": [TEMPLATE], "blocker": [TEMPLATE],
    "shows_blocker": [TEMPLATE, VALUE], "least_cost": [COSTS, TERMS], "relaxed": [COSTS, TERMS], "weights": [COSTS],
    "shows_weights": [COSTS, VALUE], "gap_instance": [COSTS], "is_submodular": [COSTS], "least_by_cut": [COSTS, TERMS],
    "map_count": [TEMPLATE, TEMPLATE], "onto_count": [TEMPLATE, TEMPLATE], "lone_count": [TEMPLATE, TEMPLATE],
    "folds": [TEMPLATE], "count_gap": [TEMPLATE, TEMPLATE],
}
OF_LISTS = ["solutions", "polymorphisms", "generated", "invariants", "maps", "folds"]


def functions():
    """All functions of the interface with their arguments."""
    for module, texts in INTERFACE.items():
        for text in texts:
            name = text.partition("(")[0]
            yield getattr(importlib.import_module(f"templates.{module}"), name), ARGUMENTS[name]


def nested(chance, depth):
    """A value of any of the allowed kinds."""
    kind = chance.randrange(9) if depth else chance.randrange(6)
    if kind < 6:
        return chance.choice((0, 1, 2, 3, -1, 10 ** 30, True, False, None, "", "same", "input", "row", "0", (), 2, 1, 0))
    parts = [nested(chance, depth - 1) for _ in range(chance.randint(0, 3))]
    if kind == 6:
        return parts
    return tuple(parts) if kind == 7 else {at: part for at, part in enumerate(parts)}


def bent(value, chance):
    """A value with one of its parts replaced by something else."""
    if not isinstance(value, tuple) or not value or chance.random() < 0.2:
        return chance.choice((nested(chance, 2), chance.choice(ODD)))
    at = chance.randrange(len(value))
    if chance.random() < 0.15:
        return value[:at] + value[at + 1:]
    if chance.random() < 0.15:
        return value[:at] + value[at:at + 1] + value[at:]
    if chance.random() < 0.1:
        return list(value)
    return value[:at] + (bent(value[at], chance),) + value[at + 1:]


def is_plain(value):
    """Whether a value consists of tuples, integers, strings, True, False and None."""
    if isinstance(value, tuple):
        return all(is_plain(part) for part in value)
    return value is None or isinstance(value, (int, str))


class WholeProgramTest(unittest.TestCase):

    def test_every_name_of_the_interface_is_here(self):
        names = [text.partition("(")[0] for texts in INTERFACE.values() for text in texts]
        self.assertEqual(len(names), len(set(names)))
        self.assertEqual(set(names), set(ARGUMENTS))
        for function, arguments in functions():
            self.assertEqual(function.__code__.co_argcount, len(arguments), function.__name__)

    def test_right_arguments_have_answers_of_the_kinds_told(self):
        for function, arguments in functions():
            kind, answer = told(function, *[argument[0] for argument in arguments])
            self.assertEqual(kind, "answer", function.__name__)
            if function.__name__ in OF_LISTS:
                self.assertIsInstance(answer, list)
                answer = tuple(answer)
            self.assertTrue(is_plain(answer), function.__name__)
            if function.__name__.startswith(("shows", "is_", "has_")):
                self.assertIsInstance(answer, bool)

    def test_the_leftmost_error_is_raised(self):
        for function, arguments in functions():
            places = [place for place, argument in enumerate(arguments) if argument[2]]
            for many in range(1, len(places) + 1):
                for wrong in itertools.combinations(places, many):
                    given = [argument[1 if place in wrong else 0] for place, argument in enumerate(arguments)]
                    right = arguments[wrong[0]]
                    with self.subTest(function=function.__name__, wrong=wrong):
                        self.assertEqual(told(function, *given), (right[2], right[3]))

    def check_call(self, function, given):
        """Any values end in an answer or an error of the package; nothing is modified; the same comes again."""
        before, again = copy.deepcopy(given), copy.deepcopy(given)
        with self.subTest(function=function.__name__, given=[shown(value) for value in given]):
            first = told(function, *given)
            self.assertTrue(first[0] == "answer" or issubclass(getattr(errors, first[0]), errors.TemplateError))
            self.assertEqual(given, before)
            self.assertEqual(told(function, *again), first)
            if function.__name__.startswith("shows"):
                without = told(function, *given[:-1], None)
                self.assertEqual(first[0], without[0])
                self.assertTrue(first[0] != "answer" or isinstance(first[1], bool))

    def test_values_of_all_kinds_for_all_arguments(self):
        chance = random.Random(1)
        for function, arguments in functions():
            right = [argument[0] for argument in arguments]
            for place in range(len(right)):
                for value in ODD[::3] + [nested(chance, 3) for _ in range(15)]:
                    self.check_call(function, right[:place] + [value] + right[place + 1:])

    def test_bent_arguments(self):
        chance = random.Random(2)
        for function, arguments in functions():
            for _ in range(60):
                given = [bent(argument[0], chance) if chance.random() < 0.6 else argument[0] for argument in arguments]
                self.check_call(function, given)

    def test_returned_lists_are_new(self):
        for function, arguments in functions():
            if function.__name__ in OF_LISTS:
                given = [argument[0] for argument in arguments]
                found = function(*given)
                right = list(found)
                found.append("more")
                self.assertEqual(function(*given), right, function.__name__)

    def test_lists_never_stand_for_tuples(self):
        for function, arguments in functions():
            for place, argument in enumerate(arguments):
                if isinstance(argument[0], tuple) and argument[2]:
                    given = [other[0] for other in arguments]
                    given[place] = list(argument[0])
                    kind = told(function, *given)[0]
                    self.assertIn(kind, (argument[2], "BadArguments"), function.__name__)

    def test_too_many_comes_after_all_others(self):
        rows = tuple(itertools.product(range(4), repeat=4))
        great = (4, ((4, rows),) * 6)
        over = [("polymorphisms", [great, ARITY[1]], "BadArity"), ("find_operations", [great, CONDITION[1]], "BadCondition"),
                ("hull", [great, RELATION[1]], "BadRelation"), ("cyclic", [great, ARITY[1]], "BadArity"),
                ("times", [great, (4, ())], "BadShape"), ("count_gap", [great, (4, ())], "BadShape"),
                ("gadget", [great], "NotBoolean"), ("blocker", [great], "BadSize"),
                ("power_operation", [2, 2, (5, (2,) * 32)], "BadOperation"), ("invariants", [4, (), 0], "BadArity"),
                ("unfolded", [(2, ()), 2, (), (9, (None,))], "BadInstance"), ("solutions", [(4, ()), (16, (None,))], "BadInstance")]
        called = {function.__name__: function for function, _ in functions()}
        for name, given, error in over:
            self.assertEqual(told(called[name], *given)[0], error, name)
        for name, given in [("polymorphisms", [great, 2]), ("cyclic", [great, 2]), ("siggers", [great]), ("weak_pair", [great]),
                            ("times", [great, great]), ("count_gap", [great, great]), ("folds", [great]), ("as_instance", [great]),
                            ("power_operation", [2, 2, (5, (0,) * 32)]), ("invariants", [4, (), 2]), ("unfolded", [(2, ()), 2, (), (9, ())]),
                            ("solutions", [(4, ()), (16, ())]), ("set_map", [great]), ("generated", [3, ((2, (2, 1, 0, 1, 2, 0, 0, 0, 1)),), 3])]:
            self.assertEqual(told(called[name], *given)[0], "TooMany", name)


if __name__ == "__main__":
    unittest.main()
