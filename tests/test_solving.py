"""Solutions, refutations and conflicts (points 9 to 11)."""

import itertools
import random
import unittest

from templates.errors import BadInstance, BadPlaces, BadTemplate, TooMany
from templates.solving import (
    conflict, count_solutions, refutation, shows_conflict, shows_refutation, solutions, solve, told_by)
from tests.tools import (
    ODD, bad_places, check_any_value, check_bad, check_leftmost, plain_solutions, rows_of, shown, some_instance,
    some_template, told)

UNLIKE = (2, ((2, ((0, 1), (1, 0))),))
RING = (3, ((0, (0, 1)), (0, (1, 2)), (0, (2, 0))))
LINE = (3, ((0, (0, 1)), (0, (1, 2))))
EMPTY = (2, ((1, ()), (2, ((0, 1),))))


def unequal(size):
    return (size, ((2, tuple(row for row in rows_of(size, 2) if row[0] != row[1])),))


def all_unequal(variables):
    return (variables, tuple((0, pair) for pair in itertools.combinations(range(variables), 2)))


def some_problems(many, seed, most=5):
    chance = random.Random(seed)
    for _ in range(many):
        size = chance.randint(1, 4)
        template = some_template(size, chance, chance.choice((2, 4, 10)))
        variables = chance.randint(0, {1: 6, 2: 6, 3: 5, 4: 4}[size])
        yield template, some_instance(template, variables, chance.randint(0, most), chance)


def without(instance, index):
    return (instance[0], instance[1][:index] + instance[1][index + 1:])


def plain_clash(template, constraint, given):
    """Whether no values of the variables of the scope, with the given ones, make a row."""
    index, scope = constraint
    for values in itertools.product(range(template[0]), repeat=len(scope)):
        worth = dict(given)
        if all(worth.setdefault(k, value) == value for k, value in zip(scope, values)):
            if values in template[1][index][1]:
                return False
    return True


def plain_refutes(template, instance, given, tree):
    """Whether a right tree, of tuples and integers as they should be, refutes."""
    if tree[0] == "clash":
        return plain_clash(template, instance[1][tree[1]], given)
    if tree[1] in given:
        return False
    return all(plain_refutes(template, instance, {**given, tree[1]: value}, part) for value, part in enumerate(tree[2]))


def plain_conflict(template, instance, indexes):
    """Whether ascending indexes are those of a conflict."""
    part = (instance[0], tuple(instance[1][index] for index in indexes))
    if plain_solutions(template, part):
        return False
    return all(plain_solutions(template, without(part, place)) for place in range(len(indexes)))


class SolutionsTest(unittest.TestCase):

    def test_against_all_assignments(self):
        for template, instance in some_problems(700, 1):
            expected = plain_solutions(template, instance)
            self.assertEqual(solutions(template, instance), expected)
            self.assertEqual(solve(template, instance), expected[0] if expected else None)
            self.assertEqual(count_solutions(template, instance), len(expected))

    def test_by_hand(self):
        self.assertEqual(solve(UNLIKE, LINE), (0, 1, 0))
        self.assertEqual(solutions(UNLIKE, LINE), [(0, 1, 0), (1, 0, 1)])
        self.assertEqual(count_solutions(UNLIKE, LINE), 2)
        self.assertIsNone(solve(UNLIKE, RING))
        self.assertEqual(solutions(UNLIKE, RING), [])
        self.assertEqual(count_solutions(UNLIKE, RING), 0)

    def test_no_variables(self):
        for template in (UNLIKE, EMPTY, (3, ())):
            self.assertEqual(solve(template, (0, ())), ())
            self.assertEqual(solutions(template, (0, ())), [()])
            self.assertEqual(count_solutions(template, (0, ())), 1)

    def test_no_constraints(self):
        for size in range(1, 5):
            for variables in range(6 if size < 4 else 5):
                free = (variables, ())
                self.assertEqual(solve((size, ()), free), (0,) * variables)
                self.assertEqual(solutions((size, ()), free), rows_of(size, variables))
                self.assertEqual(count_solutions((size, ()), free), size ** variables)

    def test_a_relation_without_rows(self):
        self.assertIsNone(solve(EMPTY, (2, ((0, (1,)),))))
        self.assertEqual(solutions(EMPTY, (2, ((0, (1,)),))), [])
        self.assertEqual(count_solutions(EMPTY, (2, ((0, (1,)),))), 0)
        self.assertEqual(count_solutions(EMPTY, (1, ((1, (0, 0)),))), 0)

    def test_greatest_number_of_solutions(self):
        # 2000 is 4 ** 2 * 5 ** 3: two free variables, and three pairs with five rows.
        template = (4, ((2, ((0, 1), (0, 3), (1, 2), (2, 2), (3, 0))), (1, ((1,), (2,))), (1, ((0,), (1,), (2,)))))
        pairs = ((0, (0, 1)), (0, (2, 3)), (0, (4, 5)))
        found = solutions(template, (8, pairs))
        self.assertEqual((len(found), found == sorted(set(found))), (2000, True))
        self.assertEqual(count_solutions(template, (8, pairs)), 2000)
        # 2001 is 3 * 23 * 29.
        rows = rows_of(4, 3)
        odd = (4, ((3, tuple(rows[:23])), (3, tuple(rows[:29])), (1, ((0,), (2,), (3,)))))
        above = (7, ((0, (0, 1, 2)), (1, (3, 4, 5)), (2, (6,))))
        self.assertEqual(count_solutions(odd, above), 2001)
        self.assertEqual(told(solutions, odd, above), ("TooMany", {"most": 2000}))
        self.assertEqual(solve(odd, above), (0,) * 7)

    def test_a_great_number_of_solutions(self):
        self.assertEqual(told(solutions, (4, ()), (16, ())), ("TooMany", {"most": 2000}))
        self.assertEqual(count_solutions((4, ()), (16, ())), 4 ** 16)
        self.assertEqual(count_solutions((3, ()), (16, ())), 3 ** 16)
        chain = (16, tuple((0, (k, k + 1)) for k in range(15)))
        for size in (2, 3, 4):
            self.assertEqual(count_solutions(unequal(size), chain), size * (size - 1) ** 15)
        ring = (16, tuple((0, (5 * k % 16, 5 * (k + 1) % 16)) for k in range(16)))
        self.assertEqual(count_solutions(unequal(4), ring), 3 ** 16 + 3)
        self.assertEqual(told(solutions, unequal(4), ring), ("TooMany", {"most": 2000}))
        pairs = (16, tuple((0, (k, k + 8)) for k in range(8)))
        self.assertEqual(count_solutions(unequal(4), pairs), 12 ** 8)
        self.assertEqual(solve(unequal(4), pairs), (0,) * 8 + (1,) * 8)

    def test_many_constraints(self):
        full = (4, ((2, tuple(rows_of(4, 2))), (2, tuple((k, k) for k in range(4)))))
        pairs = list(itertools.combinations(range(16), 2))
        loose = (16, tuple((0, pair) for pair in pairs) + tuple((0, pair) for pair in pairs[:80]))
        self.assertEqual(count_solutions(full, loose), 4 ** 16)
        self.assertEqual(solve(full, loose), (0,) * 16)
        self.assertEqual(solutions(full, (16, tuple((1, pair) for pair in pairs))), [(k,) * 16 for k in range(4)])
        self.assertIsNone(solve(unequal(4), all_unequal(16)))
        self.assertEqual(count_solutions(unequal(4), all_unequal(16)), 0)
        self.assertEqual(solutions(unequal(4), all_unequal(4)), sorted(itertools.permutations(range(4))))

    def test_the_last_variable_decides(self):
        size_two = (2, ((2, ((0, 1), (1, 0))), (1, ((1,),))))
        knot = (16, ((0, (0, 15)), (1, (15,)), (0, (13, 14)), (1, (13,))))
        self.assertEqual(solve(size_two, knot), (0,) * 13 + (1, 0, 1))
        self.assertEqual(count_solutions(size_two, knot), 2 ** 12)


    def test_a_choice_that_turns_out_to_be_wrong(self):
        # Variable 0 leaves the other three, all unequal, only two values if it is 0.
        bound = (2, ((0, 0), (0, 1), (1, 0), (1, 1), (1, 2)))
        template = (3, (unequal(3)[1][0], bound))
        for order in itertools.permutations(range(4)):
            first, *others = order
            pairs = tuple((0, pair) for pair in itertools.combinations(others, 2))
            instance = (4, pairs + tuple((1, (first, other)) for other in others))
            self.assertEqual(solutions(template, instance), plain_solutions(template, instance))
            self.assertEqual(solve(template, instance), plain_solutions(template, instance)[0])
            self.assertEqual(told_by(template, instance, (first,)), (1, ((1,),)))
            self.assertIsNone(conflict(template, instance))

    def test_parts_that_nothing_joins(self):
        # Two rings, or a ring and a line, side by side.
        for variables in itertools.permutations(range(6), 3):
            others = tuple(variable for variable in range(6) if variable not in variables)
            ring, far = [[(a, b), (b, c), (c, a)] for a, b, c in (variables, others)]
            for size, second, number in [(2, far, 0), (3, far, 36), (2, far[:2], 0), (3, far[:2], 72)]:
                instance = (6, tuple((0, scope) for scope in second + ring))
                self.assertEqual(count_solutions(unequal(size), instance), number)
                self.assertEqual(len(solutions(unequal(size), instance)), number)


class RefutationTest(unittest.TestCase):

    def test_against_all_assignments(self):
        refuted = 0
        for template, instance in some_problems(700, 2, 7):
            tree = refutation(template, instance)
            if plain_solutions(template, instance):
                self.assertIsNone(tree)
            else:
                refuted += 1
                self.assertIs(shows_refutation(template, instance, tree), True)
                self.assertTrue(plain_refutes(template, instance, {}, tree))
        self.assertGreater(refuted, 100)

    def test_by_hand(self):
        self.assertEqual(refutation(UNLIKE, (1, ((0, (0, 0)),))), ("clash", 0))
        self.assertIsNone(refutation(UNLIKE, LINE))
        self.assertIsNone(refutation(UNLIKE, (0, ())))
        one, zero = ("split", 2, (("clash", 2), ("clash", 1))), ("split", 2, (("clash", 1), ("clash", 2)))
        tree = ("split", 0, (("split", 1, (("clash", 0), one)), ("split", 1, (zero, ("clash", 0)))))
        self.assertIs(shows_refutation(UNLIKE, RING, tree), True)

    def test_greater_ones(self):
        for instance in (all_unequal(16), all_unequal(5), (16, RING[1] + tuple((0, (k, k + 1)) for k in range(3, 15)))):
            size = 4 if len(instance[1]) in (10, 120) else 2
            tree = refutation(unequal(size), instance)
            self.assertIs(shows_refutation(unequal(size), instance, tree), True)

    def test_a_clash_knows_what_is_set(self):
        # Of the rows (0, 1), (1, 0) none has 0 at both places; one that is not set may be either.
        half = ("split", 0, (("clash", 0), ("clash", 0)))
        self.assertIs(shows_refutation(UNLIKE, (2, ((0, (0, 1)),)), half), False)
        self.assertIs(shows_refutation(UNLIKE, (2, ((0, (0, 0)),)), half), True)
        self.assertIs(shows_refutation(UNLIKE, (2, ((0, (0, 0)),)), ("split", 1, (half, ("clash", 0)))), True)
        self.assertIs(shows_refutation(UNLIKE, (2, ((0, (0, 0)),)), ("split", 0, (half, ("clash", 0)))), False)

    def test_bent_values(self):
        problem = (2, ((0, (0, 0)), (0, (0, 1))))
        clash = ("clash", 0)
        bent = [("clash", 2), ("clash", -1), ("clash", True), ("clash", False), ("clash", None), ("clash", "0"), ("clash",),
                ("clash", 1), ("clash", 0, 0), ("clash", (0,)), ["clash", 0], ("Clash", 0), (0, "clash"), ("split", 0),
                ("split", 0, (clash,)), ("split", 0, (clash,) * 3), ("split", 0, [clash, clash]), ("split", 0, ()),
                ("split", 2, (clash, clash)), ("split", -1, (clash, clash)), ("split", True, (clash, clash)),
                ("split", False, (clash, clash)), ("split", None, (clash, clash)), ("split", (0,), (clash, clash)),
                ("split", [0], (clash, clash)), ("split", {}, (clash, clash)), ("split", 0, (clash, None)),
                ("split", 0, (clash, ("clash", 1))), ("split", 0, (("clash", 1), clash)), ("split", 0, {0: clash, 1: clash}),
                ("split", 0, (clash, clash), 0), ("cut", 0, (clash, clash)), (None, 0, (clash, clash)), (clash,), clash * 2,
                ("split", 0, (clash, ("split", 0, (clash, clash)))), "clash", ["split", 0, (clash, clash)], (["clash"], 0)]
        self.assertIs(shows_refutation(UNLIKE, problem, clash), True)
        self.assertIs(shows_refutation(UNLIKE, problem, ("split", 1, (clash, ("split", 0, (clash, clash))))), True)
        for value in bent + ODD:
            if value != clash and value != ("split", 0, (clash, clash)):
                with self.subTest(value=shown(value)):
                    self.assertIs(shows_refutation(UNLIKE, problem, value), False)

    def test_nothing_refutes_what_has_a_solution(self):
        chance = random.Random(3)
        for template, instance in some_problems(150, 4):
            if instance[1]:
                for _ in range(10):
                    tree = self.some_tree(template, instance, 3, chance)
                    right = plain_refutes(template, instance, {}, tree)
                    self.assertIs(shows_refutation(template, instance, tree), right)
                    self.assertFalse(right and plain_solutions(template, instance))

    def some_tree(self, template, instance, depth, chance):
        if depth == 0 or chance.random() < 0.4:
            return ("clash", chance.randrange(len(instance[1])))
        parts = tuple(self.some_tree(template, instance, depth - 1, chance) for _ in range(template[0]))
        return ("split", chance.randrange(instance[0]), parts)

    def test_bent_trees(self):
        chance = random.Random(5)
        for template, instance in some_problems(300, 6, 7):
            tree = refutation(template, instance)
            if tree is not None and tree[0] == "split":
                for _ in range(5):
                    bent = self.bent(tree, instance, chance)
                    right = plain_refutes(template, instance, {}, bent)
                    self.assertIs(shows_refutation(template, instance, bent), right)

    def bent(self, tree, instance, chance):
        """The tree with some index or variable changed."""
        if tree[0] == "clash":
            return ("clash", chance.randrange(len(instance[1])))
        if chance.random() < 0.2:
            return ("split", chance.randrange(instance[0]), tree[2])
        place = chance.randrange(len(tree[2]))
        parts = tree[2][:place] + (self.bent(tree[2][place], instance, chance),) + tree[2][place + 1:]
        return ("split", tree[1], parts)

    def test_one_value(self):
        one = (1, ((1, ()), (2, ((0, 0),))))
        self.assertEqual(refutation(one, (2, ((1, (0, 1)), (0, (1,))))), ("clash", 1))
        self.assertIs(shows_refutation(one, (1, ((0, (0,)),)), ("split", 0, (("clash", 0),))), True)


class ConflictTest(unittest.TestCase):

    def test_against_all_assignments(self):
        found = 0
        for template, instance in some_problems(500, 7, 7):
            value = conflict(template, instance)
            if plain_solutions(template, instance):
                self.assertIsNone(value)
            else:
                found += 1
                self.assertTrue(plain_conflict(template, instance, value))
                self.assertIs(shows_conflict(template, instance, value), True)
        self.assertGreater(found, 100)

    def test_all_sets_of_indexes(self):
        for template, instance in some_problems(150, 8, 5):
            for many in range(len(instance[1]) + 1):
                for indexes in itertools.combinations(range(len(instance[1])), many):
                    right = plain_conflict(template, instance, indexes)
                    self.assertIs(shows_conflict(template, instance, indexes), right)

    def test_by_hand(self):
        self.assertEqual(conflict(UNLIKE, RING), (0, 1, 2))
        self.assertIsNone(conflict(UNLIKE, LINE))
        self.assertIsNone(conflict(UNLIKE, (0, ())))
        self.assertEqual(conflict(EMPTY, (1, ((0, (0,)),))), (0,))
        self.assertEqual(len(conflict(unequal(4), all_unequal(16))), 10)

    def test_bent_values(self):
        problem = (3, RING[1] + ((0, (0, 0)),))
        right = [(0, 1, 2), (3,)]
        for value in right:
            self.assertIs(shows_conflict(UNLIKE, problem, value), True)
        bent = [(), (0,), (0, 1), (0, 1, 2, 3), (0, 2, 1), (2, 1, 0), (0, 1, 1, 2), (0, 0, 1, 2), (3, 3), (0, 3), (4,), (-1,),
                (0, 1, 4), (0, True, 2), (False, 1, 2), (0, 1, None), (0, 1, "2"), (0, 1, (2,)), [0, 1, 2], {0: 1, 1: 1, 2: 2},
                "012", ((0, 1, 2),), (10 ** 40,), 3]
        for value in bent + ODD:
            with self.subTest(value=shown(value)):
                self.assertIs(shows_conflict(UNLIKE, problem, value), False)


class ToldByTest(unittest.TestCase):

    def test_against_all_assignments(self):
        chance = random.Random(9)
        for template, instance in some_problems(500, 10):
            if instance[0]:
                variables = tuple(chance.randrange(instance[0]) for _ in range(chance.randint(1, 4)))
                rows = {tuple(values[k] for k in variables) for values in plain_solutions(template, instance)}
                self.assertEqual(told_by(template, instance, variables), (len(variables), tuple(sorted(rows))))

    def test_by_hand(self):
        self.assertEqual(told_by(UNLIKE, LINE, (0, 2)), (2, ((0, 0), (1, 1))))
        self.assertEqual(told_by(UNLIKE, LINE, (2, 1, 2)), (3, ((0, 1, 0), (1, 0, 1))))
        self.assertEqual(told_by(UNLIKE, LINE, (1, 1, 1, 1)), (4, ((0, 0, 0, 0), (1, 1, 1, 1))))
        self.assertEqual(told_by(UNLIKE, RING, (0, 1)), (2, ()))

    def test_many_solutions(self):
        self.assertEqual(told_by((4, ()), (16, ()), (15, 0, 7, 3)), (4, tuple(rows_of(4, 4))))
        self.assertEqual(told_by((4, ()), (16, ()), (9, 9)), (2, tuple((k, k) for k in range(4))))
        chain = (16, tuple((0, (k, k + 1)) for k in range(15)))
        self.assertEqual(told_by(unequal(2), chain, (0, 15)), (2, ((0, 1), (1, 0))))
        self.assertEqual(told_by(unequal(3), chain, (15, 0)), (2, tuple(rows_of(3, 2))))

    def test_places(self):
        check_bad(self, told_by, [UNLIKE, LINE, None], 2, bad_places(1, 4, 3), BadPlaces)
        check_bad(self, told_by, [UNLIKE, (0, ()), None], 2, [(), (0,), (0, 0)], BadPlaces)


class WrongValuesTest(unittest.TestCase):

    def test_leftmost_error(self):
        template, instance = ((0, ()), BadTemplate, {"index": None}), ((1, (None,)), BadInstance, {"index": 0})
        check_leftmost(self, told_by, [UNLIKE, LINE, (0,)], [template, instance, ((), BadPlaces, {})])

    def test_too_many_comes_last(self):
        with self.assertRaises(TooMany) as caught:
            solutions((2, ()), (11, ()))
        self.assertEqual(caught.exception.most, 2000)
        self.assertEqual(told(solutions, (2, ()), (17, ())), ("BadInstance", {"index": None}))

    def test_lists_are_new(self):
        first = solutions(UNLIKE, LINE)
        first.append(None)
        self.assertEqual(solutions(UNLIKE, LINE), [(0, 1, 0), (1, 0, 1)])

    def test_any_value(self):
        for function in (solve, solutions, count_solutions, refutation, conflict):
            check_any_value(self, function, [UNLIKE, RING])
        check_any_value(self, shows_refutation, [UNLIKE, RING, refutation(UNLIKE, RING)])
        check_any_value(self, shows_conflict, [UNLIKE, RING, (0, 1, 2)])
        check_any_value(self, told_by, [UNLIKE, LINE, (0, 2)])

    def test_very_deep_values(self):
        deep = ()
        for _ in range(100000):
            deep = (deep,)
        for value in (deep, ("split", 0, (deep, deep)), ("clash", deep)):
            self.assertIs(shows_refutation(UNLIKE, RING, value), False)
            self.assertIs(shows_conflict(UNLIKE, RING, value), False)


if __name__ == "__main__":
    unittest.main()
