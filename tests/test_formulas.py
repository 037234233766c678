"""Formulas (points 14 and 15)."""

import itertools
import random
import unittest

from templates.errors import BadFormula, BadRelation, BadTemplate
from templates.formulas import definable, escape, formula_for, hull, hull_formula, shows_escape, tells
from templates.structures import is_polymorphism
from tests.tools import (
    DEEP, ODD, bad_relations, check_any_value, check_bad, check_leftmost, plain_breaks, rows_of, shown, some_relation,
    some_template, told)

UNLIKE = (2, ((2, ((0, 1), (1, 0))),))
ORDER = (2, ((2, ((0, 0), (0, 1), (1, 1))),))
HORN = (2, ((2, ((0, 0), (0, 1), (1, 1))), (1, ((1,),))))
NEXT = (4, ((2, ((0, 1), (1, 2), (2, 3))),))
SIX = (hull, hull_formula, definable, formula_for, escape)


def plain_tells(template, formula):
    """What a formula tells, by going through all values of all of its variables."""
    size, relations = template
    free, hidden, atoms = formula
    found = set()
    for values in rows_of(size, free + hidden):
        held = all(values[scope[0]] == values[scope[1]] if name == "same"
                   else tuple(values[k] for k in scope) in relations[name][1] for name, scope in atoms)
        if held:
            found.add(values[:free])
    return (free, tuple(sorted(found)))


def some_formula(template, free, hidden, many, chance):
    atoms = []
    for _ in range(many):
        name = chance.choice(["same"] + list(range(len(template[1]))) * 2)
        width = 2 if name == "same" else template[1][name][0]
        atoms.append((name, tuple(chance.randrange(free + hidden) for _ in range(width))))
    return (free, hidden, tuple(atoms))


def plain_polymorphisms(template, arity):
    """All polymorphisms of an arity, by going through all tables."""
    size, relations = template
    for table in itertools.product(range(size), repeat=size ** arity):
        if all(plain_breaks(size, (arity, table), relation) is None for relation in relations):
            yield dict(zip(rows_of(size, arity), table))


def plain_hull(template, relation):
    arity, rows = relation
    columns = list(zip(*rows))
    found = {tuple(worth[column] for column in columns) for worth in plain_polymorphisms(template, len(rows))}
    return (arity, tuple(sorted(found)))


def some_questions():
    """Templates and relations with at least one row, of which all operations can be gone through."""
    chance = random.Random(11)
    for size, most, many in [(1, 1, 8), (2, 1, 20), (2, 2, 60), (2, 3, 60), (3, 1, 40), (4, 1, 15)]:
        for _ in range(many):
            template = some_template(size, chance, chance.choice((2, 3, 5)))
            relation = some_relation(size, chance.randint(1, 4), most, chance)
            if relation[1]:
                yield template, relation


class TellsTest(unittest.TestCase):

    def test_against_all_assignments(self):
        chance = random.Random(1)
        most = {1: (4, 5), 2: (4, 5), 3: (4, 3), 4: (3, 2)}
        for _ in range(600):
            size = chance.randint(1, 4)
            template = some_template(size, chance, chance.choice((2, 4, 8)))
            free, hidden = (chance.randint(low, high) for low, high in zip((1, 0), most[size]))
            formula = some_formula(template, free, hidden, chance.randint(0, 7), chance)
            with self.subTest(template=template, formula=formula):
                self.assertEqual(tells(template, formula), plain_tells(template, formula))

    def test_no_atoms(self):
        for size, free in itertools.product(range(1, 5), repeat=2):
            expected = (free, tuple(rows_of(size, free)))
            self.assertEqual(tells((size, ()), (free, 0, ())), expected)
            self.assertEqual(tells((size, ()), (free, 256, ())), expected)

    def test_no_hidden_variables(self):
        self.assertEqual(tells(ORDER, (2, 0, ((0, (1, 0)),))), (2, ((0, 0), (1, 0), (1, 1))))
        self.assertEqual(tells(UNLIKE, (1, 0, ((0, (0, 0)),))), (1, ()))

    def test_variables_twice_in_a_scope(self):
        three = (3, ((3, ((0, 0, 1), (0, 1, 2), (1, 1, 1), (2, 2, 0))),))
        self.assertEqual(tells(three, (2, 0, ((0, (0, 0, 1)),))), (2, ((0, 1), (1, 1), (2, 0))))
        self.assertEqual(tells(three, (1, 0, ((0, (0, 0, 0)),))), (1, ((1,),)))
        self.assertEqual(tells(three, (1, 1, ((0, (1, 0, 1)),))), (1, ((1,),)))

    def test_same(self):
        equal = (2, ((0, 0), (1, 1), (2, 2)))
        self.assertEqual(tells((3, ()), (2, 0, (("same", (0, 1)),))), equal)
        self.assertEqual(tells((3, ()), (2, 2, (("same", (2, 0)), ("same", (1, 3)), ("same", (3, 2))))), equal)
        self.assertEqual(tells((3, ()), (1, 0, (("same", (0, 0)),))), (1, ((0,), (1,), (2,))))
        self.assertEqual(tells(UNLIKE, (2, 0, (("same", (0, 1)), (0, (0, 1))))), (2, ()))
        self.assertEqual(tells(UNLIKE, (2, 1, (("same", (2, 1)), (0, (0, 2))))), (2, ((0, 1), (1, 0))))

    def test_hidden_variables_that_have_no_values(self):
        self.assertEqual(tells(UNLIKE, (1, 1, ((0, (1, 1)),))), (1, ()))
        self.assertEqual(tells(UNLIKE, (2, 3, ((0, (2, 3)), (0, (3, 4)), (0, (4, 2))))), (2, ()))
        self.assertEqual(tells((1, ((1, ()),)), (1, 1, ((0, (1,)),))), (1, ()))

    def test_order(self):
        # Both free variables are below a hidden one that is below the first one.
        self.assertEqual(tells(ORDER, (2, 1, ((0, (0, 2)), (0, (1, 2)), (0, (2, 0))))), (2, ((0, 0), (1, 0), (1, 1))))

    def test_256_hidden_variables(self):
        chain = tuple((0, (k, k + 1)) for k in range(1, 257))
        for last in (256, 257):
            even = (last - 1) % 2 == 0
            told_pairs = ((0, 0), (1, 1)) if even else ((0, 1), (1, 0))
            formula = (2, 256, chain + (("same", (0, last)),))
            self.assertEqual(tells(UNLIKE, formula), (2, told_pairs))
        up = tuple((0, (k, k + 1)) for k in range(2, 257)) + ((0, (0, 2)), (0, (257, 1)))
        self.assertEqual(tells(ORDER, (2, 256, up)), ORDER[1][0])

    def test_many_solutions_of_hidden_variables(self):
        three = (3, ((2, tuple(row for row in rows_of(3, 2) if row[0] != row[1])),))
        ladder = [(0, (k, k + 1)) for k in range(2, 257, 2)]
        ladder += [(0, (k, k + 2)) for k in range(2, 256)]
        atoms = (("same", (0, 2)), ("same", (1, 257))) + tuple(ladder)
        self.assertEqual(tells(three, (2, 256, atoms)), (2, tuple(rows_of(3, 2))))

    def test_5000_atoms(self):
        atoms = tuple((0, (k % 250, k % 251 + 5)) for k in range(4998)) + (("same", (0, 1)), ("same", (0, 0)))
        self.assertEqual(tells((2, ((2, ((0, 0), (1, 1))),)), (1, 255, atoms)), (1, ((0,), (1,))))
        self.assertEqual(tells(UNLIKE, (3, 0, ((0, (0, 1)),) * 5000)), (3, ((0, 1, 0), (0, 1, 1), (1, 0, 0), (1, 0, 1))))
        rows = tuple(row for row in rows_of(2, 3) if any(row))
        cover = (2, ((3, rows), (1, ((0,),))))
        atoms = tuple((0, (k % 258, (k + 1 + k // 258) % 258, (k + 40 + k // 129) % 258)) for k in range(4999))
        self.assertEqual(tells(cover, (2, 256, atoms + ((1, (0,)),)))[1], ((0, 0), (0, 1)))


class WrongFormulasTest(unittest.TestCase):

    def test_no_formula(self):
        step = (0, (0, 1))
        bad = [None, 0, True, "same", (), (1,), (1, 0), (1, 0, (), ()), [1, 0, ()], {}, (0, 0, ()), (5, 0, ()), (-1, 0, ()),
               (True, 0, ()), ("1", 0, ()), (None, 0, ()), ((1,), 0, ()), (10 ** 40, 0, ()), (1, -1, ()), (1, 257, ()),
               (1, True, ()), (1, False, ()), (1, None, ()), (1, "0", ()), (1, 10 ** 40, ()), (1, 0, None), (1, 0, []),
               (1, 0, [step]), (1, 0, {}), (1, 0, 0), (1, 0, "0"), (2, 0, (step,) * 5001), (2, 0, (None,) * 5001)]
        check_bad(self, tells, [ORDER, None], 1, bad, BadFormula, {"index": None})

    def test_what_is_no_atom(self):
        bad = [None, 0, True, "same", (), (0,), (0, (0, 1), 0), [0, (0, 1)], {0: (0, 1)}, (0, [0, 1]), (0, None), (0, 0),
               (0, ()), (0, (0,)), (0, (0, 1, 0)), (1, (0, 1)), (2, (0,)), (-1, (0, 1)), (True, (1,)), (False, (0, 1)),
               (None, (0, 1)), ("0", (0, 1)), (10 ** 40, (0, 1)), (0, (0, 3)), (0, (-1, 0)), (0, (True, 0)), (0, (0, False)),
               (0, (0, None)), (0, (0, "1")), (0, (0, 10 ** 40)), ("same",), ("same", 0, 1), ("same", (0, 1), 0), ("same", (0,)), ("same", (0, 1, 2)),
               ("same", [0, 1]), ("same", (0, 3)), ("same", (0, -1)), ("same", (0, True)), ("same", None), ("Same", (0, 1)),
               ("", (0, 1)), (("same",), (0, 1)), (["same"], (0, 1)), DEEP, (DEEP, (0, 1)), (0, DEEP)]
        for value in bad:
            atoms = ((0, (0, 2)), ("same", (1, 2)), value, None)
            with self.subTest(value=shown(value)):
                self.assertEqual(told(tells, HORN, (2, 1, atoms)), ("BadFormula", {"index": 2}))
        for index in (0, 1, 4999):
            atoms = ((0, (0, 0)),) * index + ((0, (0, 1)),) + (None,) * (4999 - index)
            self.assertEqual(told(tells, ORDER, (1, 0, atoms)), ("BadFormula", {"index": index}))
        self.assertEqual(told(tells, (2, ()), (2, 0, (("same", (0, 1)), (0, (0, 1))))), ("BadFormula", {"index": 1}))

    def test_leftmost_error(self):
        for formula in (((1, 0), BadFormula, {"index": None}), ((1, 0, (None,)), BadFormula, {"index": 0})):
            check_leftmost(self, tells, [ORDER, (1, 0, ())], [((2, (1,)), BadTemplate, {"index": 0}), formula])

    def test_any_value(self):
        odd = ODD + [(1, 0, ()), (4, 256, ()), (True, 0, ()), (1, 1, ((0, (0, 1)),)), (2, 0, (("same", (0, 1)),)), (1, 0, ([],)),
                     (1, 1, ((0, [0, 1]),)), (1, 0, (DEEP,)), DEEP]
        check_any_value(self, tells, [ORDER, (2, 1, ((0, (0, 2)), ("same", (1, 2))))], odd)


class HullTest(unittest.TestCase):

    def test_against_all_operations(self):
        for template, relation in some_questions():
            with self.subTest(template=template, relation=relation):
                self.assertEqual(hull(template, relation), plain_hull(template, relation))

    def test_formulas_tell_what_they_must(self):
        for template, relation in some_questions():
            least = hull(template, relation)
            formula = hull_formula(template, relation)
            self.assertEqual(tells(template, formula), least)
            self.assertLessEqual(set(relation[1]), set(least[1]))
            # The hull is its own hull, where that can be asked.
            if told(hull, template, least)[0] == "answer":
                self.assertEqual(hull(template, least), least)

    def test_definable_formula_and_escape_agree(self):
        seen = set()
        for template, relation in some_questions():
            with self.subTest(template=template, relation=relation):
                right = plain_hull(template, relation) == relation
                seen.add(right)
                self.assertIs(definable(template, relation), right)
                formula, found = formula_for(template, relation), escape(template, relation)
                self.assertEqual((formula is not None, found is None), (right, right))
                if right:
                    self.assertEqual(tells(template, formula), relation)
                else:
                    self.check_escape(template, relation, found)
        self.assertEqual(seen, {True, False})

    def check_escape(self, template, relation, found):
        (arity, table), row = found
        rows = relation[1]
        self.assertEqual(arity, len(rows))
        self.assertTrue(is_polymorphism(template, (arity, table)))
        worth = dict(zip(rows_of(template[0], arity), table))
        self.assertEqual(tuple(worth[column] for column in zip(*rows)), row)
        self.assertNotIn(row, rows)
        self.assertIs(shows_escape(template, relation, found), True)

    def test_what_formulas_tell_is_definable(self):
        chance = random.Random(3)
        many = 0
        for _ in range(200):
            size = chance.randint(1, 3)
            template = some_template(size, chance, 3)
            relation = tells(template, some_formula(template, chance.randint(1, 3), 2, chance.randint(1, 4), chance))
            if relation[1] and told(definable, template, relation)[0] == "answer":
                many += 1
                self.assertIs(definable(template, relation), True)
        self.assertGreater(many, 60)

    def test_by_hand(self):
        self.assertEqual(hull(ORDER, (2, ((0, 1), (1, 0)))), (2, ((0, 0), (0, 1), (1, 0), (1, 1))))
        self.assertIs(definable(ORDER, (1, ((0,),))), False)
        self.assertIs(definable(HORN, (1, ((1,),))), True)
        self.assertEqual(escape(UNLIKE, (1, ((0,),))), ((1, (1, 0)), (1,)))
        self.assertIs(escape(UNLIKE, (1, ((0,), (1,)))), None)
        self.assertEqual([hull(NEXT, (1, ((k,),))) for k in range(4)], [(1, ((k,),)) for k in range(4)])

    def test_the_order_of_the_rows_counts(self):
        # Without relations all operations carry the rows, also those that give their first argument alone.
        for template in ((2, ()), (3, ((2, ()),))):
            relation = (2, ((0, 1), (1, 0)))
            self.assertEqual(hull(template, relation), (2, tuple(rows_of(template[0], 2))))

    def test_relations_without_rows_in_the_template(self):
        template = (2, ((1, ()), (2, ((0, 1), (1, 0)))))
        self.assertEqual(hull(template, (1, ((0,),))), (1, ((0,), (1,))))
        self.assertEqual(tells(template, hull_formula(template, (1, ((0,),)))), (1, ((0,), (1,))))


class ShowsEscapeTest(unittest.TestCase):

    question = (ORDER, (2, ((0, 1), (1, 0))))

    def test_bent_pairs(self):
        template, relation = self.question
        operation, row = (2, (0, 0, 0, 1)), (0, 0)
        self.assertIs(shows_escape(template, relation, (operation, row)), True)
        self.assertIs(shows_escape(template, relation, ((2, (0, 1, 1, 1)), (1, 1))), True)
        self.assertIs(shows_escape(template, relation, ((2, (0, 0, 0, 0)), (0, 0))), True)
        bent = [
            (operation, (1, 1)), (operation, (0, 1)), (operation, (0,)), (operation, (0, 0, 0)), (operation, [0, 0]),
            (operation, (False, 0)), (operation, (0, False)), (operation, None), (operation, 0), [operation, row],
            (operation,), (operation, row, row), (row, operation), (None, row), ((2, [0, 0, 0, 1]), row),
            ((2, (False, 0, 0, 1)), row), ((2, (0, 0, 0, True)), row), ((2, (0, 0, 0)), row), ((2, (0, 0, 0, 2)), row),
            ((True, (0, 1)), row), ((1, (0, 0)), row), ((3, (0,) * 8), row), ((2, (0, 0, 1, 1)), (0, 1)),
            ((2, (0, 0, 1, 1)), (0, 0)), ((2, (1, 0, 0, 1)), (0, 0)), ((2, (1, 0, 0, 0)), (0, 0)), (([2], (0, 0)), row),
            ((2.0, (0, 0, 0, 1)), row), {operation: row}, {}, "", operation, row,
        ]
        for value in bent:
            with self.subTest(value=shown(value)):
                self.assertIs(shows_escape(template, relation, value), False)

    def test_rows_in_ascending_order(self):
        # The operation tells the first row's entries apart from the second one's.
        relation = (2, ((0, 1), (1, 1)))
        left_not_right = (2, (0, 0, 1, 0))
        self.assertIs(shows_escape((2, ()), relation, (left_not_right, (0, 0))), True)
        self.assertIs(shows_escape((2, ()), relation, (left_not_right, (1, 0))), False)

    def test_values_of_all_kinds(self):
        for template, relation in [self.question, (UNLIKE, (1, ((0,),))), ((1, ()), (1, ((0,),)))]:
            for value in ODD:
                with self.subTest(value=shown(value)):
                    right = value == ((1, (1, 0)), (1,)) and template == UNLIKE
                    self.assertIs(shows_escape(template, relation, value), right)
                    meets = template == ORDER and value == (2, (0, 0, 0, 1))
                    self.assertIs(shows_escape(template, relation, (value, (0, 0))), meets)
                    self.assertIs(shows_escape(template, relation, ((2, (0, 0, 0, 1)), value)),
                                  relation == self.question[1] and value == (0, 0))

    def test_none_for_definable_relations(self):
        for template, relation in some_questions():
            if definable(template, relation):
                arity = len(relation[1])
                for place in range(arity):
                    table = tuple(row[place] for row in rows_of(template[0], arity))
                    self.assertIs(shows_escape(template, relation, ((arity, table), relation[1][place])), False)


class BoundsTest(unittest.TestCase):

    def check_all(self, template, relation, expected):
        for function in SIX:
            with self.subTest(function=function.__name__):
                self.assertEqual(told(function, template, relation)[0], expected[0])
                if expected[0] == "TooMany":
                    self.assertEqual(told(function, template, relation), expected)
        for value in (None, ((1, (0, 0)), (0,))):
            said = told(shows_escape, template, relation, value)
            self.assertEqual(said, expected if expected[0] == "TooMany" else ("answer", False))

    def test_256(self):
        for size, most in [(2, 8), (3, 5), (4, 4)]:
            rows = rows_of(size, 4)
            self.check_all((size, ()), (4, tuple(rows[:most])), ("answer",))
            self.check_all((size, ((1, ()),)), (4, tuple(rows[-most:])), ("answer",))
            for many in (most + 1, len(rows)):
                self.check_all((size, ()), (4, tuple(rows[:many])), ("TooMany", {"most": 256}))
        self.check_all((1, ((4, ((0,) * 4,)),)), (4, ((0,) * 4,)), ("answer",))

    def test_4000(self):
        rows = rows_of(4, 4)
        just = ((4, tuple(rows[:60])), (4, tuple(rows[-20:])))
        two = (2, ((0, 1), (3, 2)))
        self.check_all((4, just), two, ("answer",))
        self.check_all((4, just + ((1, ()),)), two, ("answer",))
        self.check_all((4, just + ((1, ((2,),)),)), two, ("TooMany", {"most": 4000}))
        self.check_all((4, ((4, tuple(rows[:64])),)), two, ("TooMany", {"most": 4000}))
        # One argument: the rows count themselves, and six relations cannot have more than 1536.
        self.check_all((4, ((4, tuple(rows)),) * 6), (1, ((2,),)), ("answer",))
        eight = (3, tuple(rows_of(2, 3)))
        self.check_all((2, ((2, ((0, 1), (1, 0))),) * 6), eight, ("answer",))
        self.check_all((2, ((2, ((0, 0), (0, 1), (1, 1))),)), eight, ("TooMany", {"most": 4000}))
        self.check_all((2, ((2, ((0, 0), (0, 1), (1, 1))),)), (3, tuple(rows_of(2, 3)[:7])), ("answer",))

    def test_256_comes_ahead_of_4000(self):
        nine = (4, tuple(rows_of(2, 4)[:9]))
        self.check_all((2, ((4, tuple(rows_of(2, 4))),)), nine, ("TooMany", {"most": 256}))


class WrongValuesTest(unittest.TestCase):

    def test_relations(self):
        for size in range(1, 5):
            empty = [(arity, ()) for arity in range(1, 5)]
            for function in SIX:
                check_bad(self, function, [(size, ()), None], 1, bad_relations(size) + empty, BadRelation)
            check_bad(self, shows_escape, [(size, ()), None, None], 1, bad_relations(size) + empty, BadRelation)

    def test_leftmost_error(self):
        wrong = [((0, ()), BadTemplate, {"index": None}), ((1, ()), BadRelation, {})]
        for function in SIX:
            check_leftmost(self, function, [ORDER, (1, ((0,),))], wrong)
        check_leftmost(self, shows_escape, [ORDER, (1, ((0,),)), None], wrong + [None])

    def test_too_many_comes_last(self):
        great = (4, ((4, tuple(rows_of(4, 4))),))
        for function in SIX:
            self.assertEqual(told(function, great, (2, ((0, 1), (0, 0)))), ("BadRelation", {}))
            self.assertEqual(told(function, great, (4, ())), ("BadRelation", {}))

    def test_any_value(self):
        for function in SIX:
            check_any_value(self, function, [ORDER, (2, ((0, 1), (1, 0)))])
        check_any_value(self, shows_escape, [ORDER, (2, ((0, 1), (1, 0))), ((2, (0, 0, 0, 1)), (0, 0))])


if __name__ == "__main__":
    unittest.main()
