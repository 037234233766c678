"""Powers of templates (point 24)."""

import itertools
import random
import unittest

from templates.conditions import find_operations
from templates.errors import BadArity, BadFormulas, BadInstance, BadOperation, BadSize, BadTemplate
from templates.formulas import tells
from templates.operations import keeps
from templates.powers import power, power_operation, unfolded
from templates.structures import is_polymorphism, satisfies
from tests.tools import (
    BAD_SIZES, DEEP, ODD, bad_operations, check_any_value, check_bad, check_leftmost, plain_solutions, rows_of, shown,
    some_operation, some_template, told, value_at)

UNLIKE = (2, ((2, ((0, 1), (1, 0))),))
ORDER = (2, ((2, ((0, 0), (0, 1), (1, 1))),))
EDGE = (2, 0, ((0, (0, 1)),))
BAD_MANY = [None, True, False, 0, 3, -1, 10 ** 40, "1", "2", (1,), [2], {}, (), DEEP]
BAD_LISTS = [None, 0, True, "", [], [EDGE], {}, {0: EDGE}, (EDGE,) * 7, (None,) * 7]
BAD_FORMULAS = [None, 0, True, "", (), (1, 0), (0, 0, ()), (5, 0, ()), (True, 0, ()), (2, -1, ()), (2, 257, ()), (2, 0, None),
                (2, 0, []), (2, 0, (None,)), (2, 0, ((0, (0,)),)), (2, 0, ((1, (0, 1)),)), (2, 0, ((0, (0, 2)),)),
                (2, 0, (("same", (0, 2)),)), [2, 0, ()], (2, 0, ((0, (0, 1)),) * 5001), DEEP]


def some_atom(template, variables, chance):
    if not template[1] or chance.random() < 0.25:
        return ("same", (chance.randrange(variables), chance.randrange(variables)))
    index = chance.randrange(len(template[1]))
    return (index, tuple(chance.randrange(variables) for _ in range(template[1][index][0])))


def some_fitting(template, many, chance, most_hidden=2):
    """A formula with a fitting number of free variables."""
    free = chance.choice([free for free in (1, 2, 3, 4) if free % many == 0])
    hidden = chance.randint(0, most_hidden)
    return (free, hidden, tuple(some_atom(template, free + hidden, chance) for _ in range(chance.randint(0, 4))))


def sizes_and_many():
    return [(1, 1), (2, 1), (3, 1), (4, 1), (1, 2), (2, 2)]


def some_power(chance, most_formulas=3):
    size, many = chance.choice(sizes_and_many())
    relations = some_template(size, chance, 6)[1] or ((1, tuple((value,) for value in range(size))),)
    template = (size, relations)
    return template, many, tuple(some_fitting(template, many, chance) for _ in range(chance.randint(0, most_formulas)))


def number(size, values):
    """The number of a tuple of values among all such tuples in ascending order."""
    return rows_of(size, len(values)).index(tuple(values))


class PowerTest(unittest.TestCase):

    def test_against_tells(self):
        chance = random.Random(1)
        for _ in range(250):
            template, many, formulas = some_power(chance, 6)
            size, relations = power(template, many, formulas)
            self.assertEqual((size, len(relations)), (template[0] ** many, len(formulas)))
            for (arity, rows), formula in zip(relations, formulas):
                self.assertEqual(arity * many, formula[0])
                right = [tuple(number(template[0], row[at:at + many]) for at in range(0, formula[0], many))
                         for row in tells(template, formula)[1]]
                self.assertEqual(rows, tuple(sorted(right)))

    def test_by_hand(self):
        formulas = ((4, 0, ((0, (1, 2)),)), (2, 0, ((0, (0, 1)),)))
        rows = ((0, 2), (0, 3), (1, 0), (1, 1), (2, 2), (2, 3), (3, 0), (3, 1))
        self.assertEqual(power(UNLIKE, 2, formulas), (4, ((2, rows), (1, ((1,), (2,))))))
        self.assertEqual(power(UNLIKE, 1, (EDGE,)), UNLIKE)

    def test_no_formulas_and_six(self):
        for size, many in sizes_and_many():
            template = (size, ((2, tuple(row for row in rows_of(size, 2) if row[0] <= row[1])),))
            self.assertEqual(power(template, many, ()), (size ** many, ()))
            six = power(template, many, (EDGE, EDGE, (4, 0, ()), (2, 2, ((0, (0, 2)), (0, (2, 3)))), (4, 1, ()), EDGE))
            self.assertEqual([arity * many for arity, _ in six[1]], [2, 2, 4, 2, 4, 2])
            self.assertEqual(len(six[1][2][1]), size ** 4)

    def test_a_power_is_a_template(self):
        chance = random.Random(2)
        for _ in range(60):
            self.assertTrue(told(satisfies, power(*some_power(chance)), (0, ()), ())[1])


class UnfoldedTest(unittest.TestCase):

    def check_unfolded(self, template, many, formulas, instance):
        problem, places = unfolded(template, many, formulas, instance)
        self.assertEqual([len(places), {len(place) for place in places} <= {many}], [instance[0], True])
        self.assertTrue(all(0 <= variable < problem[0] for place in places for variable in place))
        self.assertNotEqual(told(satisfies, template, problem, None)[0], "BadInstance")
        found = {tuple(number(template[0], [values[variable] for variable in place]) for place in places)
                 for values in plain_solutions(template, problem)}
        right = set(plain_solutions(power(template, many, formulas), instance))
        self.assertEqual(found, right, (template, many, formulas, instance))
        return problem

    def test_against_all_solutions(self):
        chance = random.Random(3)
        sizes = set()
        for _ in range(400):
            template, many, formulas = some_power(chance)
            variables = chance.randint(0, 3)
            constraints = []
            for _ in range(chance.randint(0, 2) if formulas and variables else 0):
                index = chance.randrange(len(formulas))
                scope = tuple(chance.randrange(variables) for _ in range(formulas[index][0] // many))
                constraints.append((index, scope))
            if template[0] ** (variables * many + sum(formulas[index][1] for index, _ in constraints)) <= 5000:
                problem = self.check_unfolded(template, many, formulas, (variables, tuple(constraints)))
                sizes.add((many, variables, problem[0] > variables * many, problem[0] < variables * many))
        self.assertGreater(len(sizes), 12)

    def test_no_variables_and_no_constraints(self):
        for size, many in sizes_and_many():
            template = (size, ((1, ((0,),)),))
            self.assertEqual(unfolded(template, many, (), (0, ())), ((0, ()), ()))
            self.assertEqual(self.check_unfolded(template, many, ((2, 1, ()),), (2, ()))[0], 2 * many)

    def test_same(self):
        joins = (4, 0, (("same", (0, 3)), ("same", (1, 2))))
        problem = self.check_unfolded(UNLIKE, 2, (joins,), (2, ((0, (0, 1)),)))
        self.assertEqual(problem, (2, ()))
        # All parts of one variable become the same when it occurs twice.
        self.assertEqual(self.check_unfolded(UNLIKE, 2, (joins,), (1, ((0, (0, 0)),))), (1, ()))

    def test_hidden_variables_are_new_for_each_constraint(self):
        between = (2, 1, ((0, (0, 2)), (0, (2, 1))))
        problem = self.check_unfolded(ORDER, 1, (between,), (3, ((0, (0, 1)), (0, (1, 2)), (0, (0, 1)))))
        self.assertEqual((problem[0], len(problem[1])), (6, 6))

    def test_a_relation_without_rows(self):
        never = (2, 1, ((0, (2, 2)),))
        self.check_unfolded(UNLIKE, 1, (never,), (2, ((0, (0, 1)),)))
        self.check_unfolded(UNLIKE, 2, (never,), (2, ((0, (1,)),)))

    def test_16_variables(self):
        hidden = (1, 1, ((0, (0, 1)),))
        for many, formula, variables, most in [(1, hidden, 8, 8), (2, (2, 4, ()), 2, 3), (1, (1, 15, ()), 1, 1), (2, (2, 0, ()), 8, 200),
                                               (1, (1, 0, ()), 16, 200), (1, (1, 5, (("same", (1, 2)), ("same", (4, 0)))), 1, 5)]:
            for used in range(most + 1):
                constraints = tuple((0, (at % variables,)) for at in range(used))
                kind, answer = told(unfolded, UNLIKE, many, (formula,), (variables, constraints))
                self.assertEqual(kind, "answer")
                self.assertLessEqual(answer[0][0], 16)
            over = (variables, ((0, (0,)),) * (most + 1))
            if most < 200:
                self.assertEqual(told(unfolded, UNLIKE, many, (formula,), over), ("TooMany", {"most": 16}))
        self.assertEqual(told(unfolded, UNLIKE, 2, (), (9, ())), ("TooMany", {"most": 16}))
        self.assertEqual(told(unfolded, UNLIKE, 2, (), (8, ()))[0], "answer")

    def test_variables_that_same_joins_count_once(self):
        joined = (2, 256, tuple(("same", (k, k + 1)) for k in range(257)))
        for many, scope in ((1, (0, 1)), (2, (0,))):
            problem, _ = unfolded(UNLIKE, many, (joined,), (2, ((0, scope),) * 200))
            self.assertEqual(problem, (2 * many - 1, ()))
        # One hidden variable that is not joined, for each of seventeen constraints.
        loose = (1, 2, (("same", (0, 1)),))
        self.assertEqual(unfolded(UNLIKE, 1, (loose,), (1, ((0, (0,)),) * 15))[0][0], 16)
        self.assertEqual(told(unfolded, UNLIKE, 1, (loose,), (1, ((0, (0,)),) * 16)), ("TooMany", {"most": 16}))

    def test_200_constraints(self):
        order = (2, ((4, tuple(rows_of(2, 4))),))
        scopes = [scope for scope in itertools.product(range(4), repeat=4)]
        for many in (1, 2):
            for count in (199, 200, 201, 256):
                formula = (4, 0, tuple((0, scope) for scope in scopes[:count]))
                kind, answer = told(unfolded, order, many, (formula,), (4, ((0, (0, 1, 2, 3)[:4 // many]),)))
                if count > 200:
                    self.assertEqual((kind, answer), ("TooMany", {"most": 200}))
                else:
                    self.assertEqual((kind, len(set(answer[0][1]))), ("answer", count))
        # Equal constraints count once: within a formula, for equal constraints, and behind "same".
        formula = (4, 0, tuple((0, scope) for scope in scopes[:200]) * 25)
        problem, _ = unfolded(order, 1, (formula,), (4, ((0, (0, 1, 2, 3)),) * 5))
        self.assertEqual(len(set(problem[1])), 200)
        formula = (4, 0, tuple((0, scope) for scope in scopes) + (("same", (2, 3)),))
        problem, _ = unfolded(order, 1, (formula,), (4, ((0, (0, 1, 2, 3)),)))
        self.assertEqual(set(problem[1]), {(0, scope) for scope in itertools.product(range(3), repeat=4)})
        problem, _ = unfolded(order, 1, ((4, 0, tuple((0, scope) for scope in scopes)),), (2, ((0, (0, 1, 1, 0)),)))
        self.assertEqual(len(set(problem[1])), 16)

    def test_16_comes_ahead_of_200(self):
        wide = (2, ((4, ()),))
        formula = (4, 13, tuple((0, scope) for scope in itertools.product(range(4), repeat=4)))
        self.assertEqual(told(unfolded, wide, 1, (formula,), (4, ((0, (0, 1, 2, 3)),))), ("TooMany", {"most": 16}))
        formula = (4, 12, formula[2])
        self.assertEqual(told(unfolded, wide, 1, (formula,), (4, ((0, (0, 1, 2, 3)),))), ("TooMany", {"most": 200}))

    def test_formulas_that_are_not_used_do_not_count(self):
        great = (2, 256, tuple((0, (k, k + 1)) for k in range(257)))
        self.assertEqual(unfolded(UNLIKE, 1, (great, EDGE), (2, ((1, (1, 0)),))), ((2, ((0, (1, 0)),)), ((0,), (1,))))


class WrongPowersTest(unittest.TestCase):

    def test_many(self):
        for function, rest in ((power, [()]), (unfolded, [(), (0, ())])):
            for size in (1, 2):
                check_bad(self, function, [(size, ()), None] + rest, 1, BAD_MANY, BadArity)
            for size in (3, 4):
                check_bad(self, function, [(size, ()), None] + rest, 1, BAD_MANY + [2], BadArity)
                self.assertEqual(told(function, (size, ()), 1, *rest)[0], "answer")

    def test_formulas(self):
        for function, rest in ((power, []), (unfolded, [(0, ())])):
            for many in (1, 2):
                check_bad(self, function, [UNLIKE, many, None] + rest, 2, BAD_LISTS, BadFormulas, {"index": None})
                for bad in BAD_FORMULAS + [(1, 0, ()), (3, 0, ())][:2 * (many - 1)]:
                    for index in range(6):
                        formulas = (EDGE,) * index + (bad,) + (None,) * (5 - index)
                        said = told(function, UNLIKE, many, formulas, *rest)
                        self.assertEqual(said, ("BadFormulas", {"index": index}), shown(bad))
            for free in (1, 2, 3, 4):
                self.assertEqual(told(function, UNLIKE, 1, ((free, 0, ()),), *rest)[0], "answer")

    def test_instances(self):
        formulas = (EDGE, (4, 0, ()))
        bad = [None, (0,), [0, ()], (17, ()), (-1, ()), (True, ()), (2, []), (2, ((0, (0,)),) * 201)]
        check_bad(self, unfolded, [UNLIKE, 2, formulas, None], 3, bad, BadInstance, {"index": None})
        for bad in [None, (0, (0, 1)), (1, (0,)), (2, (0,)), (0, (2,)), (0, (True,)), (0, [0]), (1, (0, 2)), (-1, (0,)), ("same", (0, 1))]:
            said = told(unfolded, UNLIKE, 2, formulas, (2, ((0, (1,)), (1, (1, 0)), bad, None)))
            self.assertEqual(said, ("BadInstance", {"index": 2}), shown(bad))
        self.assertEqual(told(unfolded, UNLIKE, 2, (), (2, ((0, (1,)),))), ("BadInstance", {"index": 0}))

    def test_leftmost_error(self):
        template = ((2, (1,)), BadTemplate, {"index": 0})
        for formulas in ((None, BadFormulas, {"index": None}), ((EDGE, (1, 0, ())), BadFormulas, {"index": 1})):
            check_leftmost(self, power, [UNLIKE, 2, ()], [template, (0, BadArity, {}), None])
            check_leftmost(self, power, [UNLIKE, 2, ()], [template, None, formulas])
            for many in (0, 3):
                check_leftmost(self, power, [UNLIKE, 2, ()], [template, (many, BadArity, {}), formulas])
                wrong = [template, (many, BadArity, {}), formulas, ((2,), BadInstance, {"index": None})]
                check_leftmost(self, unfolded, [UNLIKE, 2, (), (0, ())], wrong)
        great = (2, 256, ())
        self.assertEqual(told(unfolded, UNLIKE, 2, (great,), (1, ((0, (0,)), None))), ("BadInstance", {"index": 1}))

    def test_any_value(self):
        odd = ODD + [(EDGE,), (EDGE, EDGE), ((2, 0, ([],)),), ((2, 0, [EDGE]),), (0, ())]
        check_any_value(self, power, [UNLIKE, 2, (EDGE,)], odd)
        check_any_value(self, unfolded, [UNLIKE, 2, (EDGE,), (1, ((0, (0,)),))], odd)


class PowerOperationTest(unittest.TestCase):

    def test_place_by_place(self):
        chance = random.Random(4)
        for size, many in sizes_and_many():
            for arity in range(1, 9):
                if size ** (many * arity) > 256:
                    continue
                operation = some_operation(size, arity, chance)
                made = power_operation(size, many, operation)
                values = rows_of(size, many)
                table = []
                for arguments in itertools.product(values, repeat=arity):
                    told_value = tuple(value_at(size, operation, [argument[place] for argument in arguments]) for place in range(many))
                    table.append(values.index(told_value))
                self.assertEqual(made, (arity, tuple(table)))
                if many == 1:
                    self.assertEqual(made, operation)

    def test_256(self):
        for arity in range(1, 9):
            said = told(power_operation, 2, 2, (arity, (1,) * 2 ** arity))
            self.assertEqual(said[0], "answer" if arity <= 4 else "TooMany")
            if arity > 4:
                self.assertEqual(said[1], {"most": 256})
            self.assertEqual(told(power_operation, 2, 1, (arity, (1,) * 2 ** arity)), ("answer", (arity, (1,) * 2 ** arity)))
            self.assertEqual(told(power_operation, 1, 2, (arity, (0,))), ("answer", (arity, (0,))))

    def test_errors(self):
        check_bad(self, power_operation, [None, 1, (1, (0,))], 0, BAD_SIZES, BadSize)
        for size in range(1, 5):
            bad = BAD_MANY if size < 3 else BAD_MANY + [2]
            check_bad(self, power_operation, [size, None, (1, (0,) * size)], 1, bad, BadArity)
            for many in (1, 2) if size < 3 else (1,):
                check_bad(self, power_operation, [size, many, None], 2, bad_operations(size), BadOperation)
        wrong = [(0, BadSize, {}), (3, BadArity, {}), ((1, (5, 5)), BadOperation, {})]
        check_leftmost(self, power_operation, [2, 2, (1, (0, 1))], wrong)
        check_any_value(self, power_operation, [2, 2, (2, (0, 0, 0, 1))])

    def test_what_keeps_a_template_keeps_its_powers(self):
        chance = random.Random(5)
        many_kept = 0
        for _ in range(400):
            template, many, formulas = some_power(chance)
            operation = some_operation(template[0], chance.randint(1, 2), chance)
            if chance.random() < 0.5:
                operation = (2, tuple(min(row) for row in rows_of(template[0], 2)))
            if is_polymorphism(template, operation):
                raised = power_operation(template[0], many, operation)
                many_kept += 1
                for relation in power(template, many, formulas)[1]:
                    self.assertTrue(keeps(template[0] ** many, raised, relation))
        self.assertGreater(many_kept, 60)

    def test_conditions_of_unknown_operations_alone_go_over(self):
        turned = ((2,), (((0, (0, 1)), (0, (1, 0))),))
        same = ((3,), (((0, (0, 0, 1)), (0, (0, 1, 0))), ((0, (0, 0, 1)), (0, (1, 0, 0)))))
        chance = random.Random(6)
        seen = set()
        for _ in range(150):
            template, many, formulas = some_power(chance)
            for condition in (turned, same):
                kind, found = told(find_operations, power(template, many, formulas), condition)
                if kind == "answer" and find_operations(template, condition) is not None:
                    seen.add(condition)
                    self.assertIsNotNone(found)
        self.assertEqual(len(seen), 2)


if __name__ == "__main__":
    unittest.main()
