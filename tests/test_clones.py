"""Polymorphisms and terms (points 8, 12 and 13)."""

import itertools
import random
import unittest

from templates.clones import generated, polymorphisms, run_term, term_for
from templates.errors import BadArguments, BadArity, BadOperation, BadSize, BadTemplate, BadTerm
from templates.making import Making
from templates.operations import compose, projection
from templates.structures import is_polymorphism
from tests.tools import (
    BAD_SIZES, ODD, bad_operations, check_any_value, check_bad, check_leftmost, plain_breaks, plain_closure, rows_of, shown,
    some_operation, some_template, told)

GREATEST = {1: 8, 2: 8, 3: 5, 4: 4}
UNLIKE = (2, ((2, ((0, 1), (1, 0))),))
ORDER = (2, ((2, ((0, 0), (0, 1), (1, 1))),))
ONE_OF_THREE = (2, ((3, ((0, 0, 1), (0, 1, 0), (1, 0, 0))),))
LESSER = (2, (0, 0, 0, 1))
NAND = (2, (1, 1, 1, 0))
TURN = (1, (1, 0))
TURN_THREE = (1, (1, 2, 0))


def made_by(size, arity, function):
    """The operation that has the values of a Python function."""
    return (arity, tuple(function(*row) for row in rows_of(size, arity)))


def sum_of_three(size):
    return made_by(size, 3, lambda a, b, c: (a - b + c) % size)


def bad_arities(size):
    return [0, GREATEST[size] + 1, 9, -1, 10 ** 40, True, None, "1", (1,), [1], {}]


def plain_polymorphisms(template, arity):
    """All polymorphisms, by going through all tables."""
    size, relations = template
    tables = itertools.product(range(size), repeat=size ** arity)
    return [(arity, table) for table in tables
            if all(plain_breaks(size, (arity, table), relation) is None for relation in relations)]


class PolymorphismsTest(unittest.TestCase):

    def test_against_all_tables(self):
        chance = random.Random(1)
        for size, arity, many in [(1, 1, 5), (1, 2, 5), (1, 8, 3), (2, 1, 40), (2, 2, 60), (2, 3, 30), (3, 1, 60), (4, 1, 40)]:
            for _ in range(many):
                template = some_template(size, chance, chance.choice((2, 4, 8)))
                self.assertEqual(polymorphisms(template, arity), plain_polymorphisms(template, arity))

    def test_of_more_arguments(self):
        chance = random.Random(2)
        for size, arity in [(2, 4), (2, 6), (3, 2), (3, 3), (4, 2), (4, 3), (3, 5), (4, 4), (2, 8)]:
            for _ in range(4):
                template = (size, (some_template(size, chance, 2)[1] + UNLIKE[1])[:3])
                kind, found = told(polymorphisms, template, arity)
                if kind == "answer":
                    self.assertEqual(found, sorted(set(found)))
                    self.assertTrue(all(is_polymorphism(template, operation) for operation in found[:50]))
                    self.assertTrue(all(projection(size, arity, place) in found for place in range(arity)))
                else:
                    self.assertEqual(found, {"most": 2000})

    def test_by_hand(self):
        self.assertEqual(polymorphisms(UNLIKE, 1), [(1, (0, 1)), (1, (1, 0))])
        self.assertEqual(polymorphisms(ORDER, 2), [(2, table) for table in [
            (0, 0, 0, 0), (0, 0, 0, 1), (0, 0, 1, 1), (0, 1, 0, 1), (0, 1, 1, 1), (1, 1, 1, 1)]])
        self.assertEqual(polymorphisms(ONE_OF_THREE, 2), [(2, (0, 0, 1, 1)), (2, (0, 1, 0, 1))])
        self.assertEqual(polymorphisms((2, ()), 1), [(1, table) for table in rows_of(2, 2)])

    def test_known_numbers(self):
        # Monotone functions, functions f(not x) = not f(x), and colorings that only depend on one argument.
        self.assertEqual([len(polymorphisms(ORDER, arity)) for arity in (1, 2, 3, 4)], [3, 6, 20, 168])
        self.assertEqual([len(polymorphisms(UNLIKE, arity)) for arity in (1, 2, 3, 4)], [2, 4, 16, 256])
        three = (3, ((2, tuple(row for row in rows_of(3, 2) if row[0] != row[1])),))
        self.assertEqual([len(polymorphisms(three, arity)) for arity in (1, 2, 3, 4)], [6, 12, 18, 24])
        self.assertEqual([len(polymorphisms(ONE_OF_THREE, arity)) for arity in range(1, 8)], list(range(1, 8)))

    def test_arities(self):
        for size in range(1, 5):
            check_bad(self, polymorphisms, [(size, ()), None], 1, bad_arities(size), BadArity)
            self.assertEqual(told(polymorphisms, (size, ((1, ()),)), GREATEST[size])[0], "answer" if size == 1 else "TooMany")

    def test_at_most_4000_tuples_of_rows(self):
        rows = rows_of(4, 4)
        just = (4, ((4, tuple(rows[:60])), (4, tuple(rows[:20]))))
        one_more = (4, just[1] + ((1, ((0,),)),))
        self.assertEqual(told(polymorphisms, one_more, 2), ("TooMany", {"most": 4000}))
        self.assertIn(told(polymorphisms, just, 2)[1], [{"most": 2000}])
        self.assertEqual(told(polymorphisms, (4, (just[1][0], (4, tuple(rows[:21])))), 2), ("TooMany", {"most": 4000}))
        # With one argument the rows count themselves; with no rows nothing does.
        self.assertEqual(told(polymorphisms, (4, ((4, tuple(rows)),) * 6), 1)[0], "answer")
        self.assertEqual(told(polymorphisms, (2, ((4, ()),) * 6), 3), ("answer", polymorphisms((2, ()), 3)))
        self.assertEqual(told(polymorphisms, ORDER, 7)[0], "TooMany")
        self.assertEqual(told(polymorphisms, ORDER, 8), ("TooMany", {"most": 4000}))

    def test_4000_comes_ahead_of_2000(self):
        eleven = (4, ((2, tuple(rows_of(4, 2))),))
        self.assertEqual(told(polymorphisms, eleven, 3), ("TooMany", {"most": 4000}))
        self.assertEqual(told(polymorphisms, eleven, 2), ("TooMany", {"most": 2000}))

    def test_at_most_2000_polymorphisms(self):
        self.assertEqual(told(polymorphisms, (2, ()), 4), ("TooMany", {"most": 2000}))
        self.assertEqual(len(polymorphisms((2, ()), 3)), 256)
        for size in (2, 3, 4):
            self.assertEqual(told(polymorphisms, (size, ()), GREATEST[size]), ("TooMany", {"most": 2000}))
        # Arguments in a kept set of values leave as many values as the set has; all others are free.
        kept = (2, ((1, ((0,),)), (1, ((1,),))))
        self.assertEqual(len(polymorphisms(kept, 3)), 2 ** 6)
        self.assertEqual(told(polymorphisms, kept, 4), ("TooMany", {"most": 2000}))
        below = (3, ((1, ((0,), (1,))), (1, ((0,),))))
        self.assertEqual(len(polymorphisms(below, 2)), 2 ** 3 * 3 ** 5)
        above = (3, ((1, ((0,),)), (1, ((2,),))))
        self.assertEqual(told(polymorphisms, above, 2), ("TooMany", {"most": 2000}))

    def test_just_2000_polymorphisms(self):
        template = (4, ((2, ((0, 2), (1, 0), (1, 3), (2, 1), (3, 2))),))
        found = polymorphisms(template, 2)
        self.assertEqual((len(found), found == sorted(set(found))), (2000, True))
        self.assertTrue(all(is_polymorphism(template, operation) for operation in found))


class MadeOfPolymorphismsTest(unittest.TestCase):
    """Point 8, as far as it speaks of polymorphisms."""

    def test_projections_and_compositions(self):
        chance = random.Random(3)
        for _ in range(60):
            size = chance.randint(1, 4)
            template = some_template(size, chance, 3)
            for arity in range(1, min(3, GREATEST[size]) + 1):
                for place in range(arity):
                    self.assertIs(is_polymorphism(template, projection(size, arity, place)), True)
            kind, found = told(polymorphisms, template, 2)
            if kind == "answer":
                for _ in range(10):
                    made = compose(size, chance.choice(found), (chance.choice(found), chance.choice(found)))
                    self.assertIs(is_polymorphism(template, made), True)
                    self.assertIn(made, found)

    def test_generated_polymorphisms(self):
        for template in (UNLIKE, ORDER, ONE_OF_THREE):
            found = polymorphisms(template, 2)
            self.assertLessEqual(set(generated(2, tuple(found[:4]), 2)), set(found))
            self.assertLessEqual(set(generated(2, tuple(found[-4:]), 3)), set(polymorphisms(template, 3)))


class GeneratedTest(unittest.TestCase):

    def some_given(self, seed):
        chance = random.Random(seed)
        for size, arity, most, many in [(1, 1, 3, 3), (1, 8, 2, 2), (2, 1, 3, 30), (2, 2, 3, 40), (2, 3, 2, 15), (3, 1, 2, 30),
                                        (3, 1, 3, 12), (4, 1, 2, 12)]:
            for _ in range(many):
                operations = tuple(some_operation(size, chance.randint(1, most), chance) for _ in range(chance.randint(0, 3)))
                yield size, operations, arity

    def test_against_a_plain_closure(self):
        for size, operations, arity in self.some_given(4):
            with self.subTest(size=size, operations=operations, arity=arity):
                self.assertEqual(generated(size, operations, arity), plain_closure(size, operations, arity))

    def test_special_operations(self):
        given = [(2, (LESSER,), 3), (2, (LESSER, (2, (0, 1, 1, 1))), 3), (2, (sum_of_three(2),), 4), (2, (TURN,), 3),
                 (3, (made_by(3, 2, min), made_by(3, 1, lambda a: 2 - a)), 2), (3, (sum_of_three(3),), 2),
                 (4, (made_by(4, 2, max),), 3), (4, ((1, (1, 2, 3, 0)),), 2), (3, (made_by(3, 2, lambda a, b: a),), 2),
                 (2, (made_by(2, 4, lambda *row: row[0] * row[1] + row[2] * row[3] - row[0] * row[1] * row[2] * row[3]),), 2)]
        for size, operations, arity in given:
            self.assertEqual(generated(size, operations, arity), plain_closure(size, operations, arity))

    def test_by_hand(self):
        self.assertEqual(generated(2, (LESSER,), 2), [LESSER, (2, (0, 0, 1, 1)), (2, (0, 1, 0, 1))])
        self.assertEqual(generated(2, ((1, (0, 0)),), 1), [(1, (0, 0)), (1, (0, 1))])

    def test_no_given_operations(self):
        for size, most in GREATEST.items():
            for arity in range(1, most + 1):
                expected = sorted({projection(size, arity, place) for place in range(arity)})
                self.assertEqual(generated(size, (), arity), expected)

    def test_known_numbers(self):
        middle = made_by(2, 3, lambda a, b, c: a * b + b * c + c * a - 2 * a * b * c)
        greater = made_by(2, 2, max)
        self.assertEqual([len(generated(2, (middle,), arity)) for arity in (1, 2, 3, 4, 5)], [1, 2, 4, 12, 81])
        self.assertEqual([len(generated(2, (LESSER, greater), arity)) for arity in (1, 2, 3, 4)], [1, 4, 18, 166])
        self.assertEqual([len(generated(2, (NAND,), arity)) for arity in (1, 2, 3)], [4, 16, 256])
        self.assertEqual([len(generated(2, (LESSER,), arity)) for arity in (1, 4, 8)], [1, 15, 255])
        self.assertEqual([len(generated(2, (sum_of_three(2),), arity)) for arity in (1, 4, 8)], [1, 8, 128])
        self.assertEqual(len(generated(2, (made_by(2, 8, lambda *row: sum(row) % 2),), 8)), 256)
        self.assertEqual(len(generated(3, (sum_of_three(3),), 5)), 81)
        self.assertEqual(len(generated(4, (made_by(4, 2, lambda a, b: (a + b) % 4),), 4)), 256)
        self.assertEqual(len(generated(4, ((1, (1, 2, 3, 0)), (1, (1, 0, 2, 3)), (1, (0, 0, 2, 3))), 1)), 256)

    def test_at_most_2000_are_made(self):
        both = (LESSER, (2, (0, 1, 1, 1)))
        changes = ((1, (1, 2, 3, 0)), (1, (1, 0, 2, 3)), (1, (0, 0, 2, 3)))
        for operations, arity in [((NAND,), 4), ((NAND,), 8), (both, 5)]:
            for function, last in ((generated, arity), (term_for, projection(2, arity, 0))):
                self.assertEqual(told(function, 2, operations, last), ("TooMany", {"most": 2000}))
        # All changes of an argument: 252 that are no constants for each one, and 4 constants.
        self.assertEqual(len(generated(4, changes, 4)), 4 * 252 + 4)

    def test_just_below_and_above_2000(self):
        ways = (0, 0, 2, 3, 0, 1, 0, 1, 0, 2, 2, 0, 3, 3, 2, 3)
        self.assertEqual(len(generated(4, ((2, ways), (1, (0, 1, 0, 1))), 2)), 1988)
        ways = (0, 1, 0, 0, 1, 0, 1, 1, 2, 2, 2, 2, 0, 3, 0, 3)
        self.assertEqual(told(generated, 4, ((2, ways), (1, (2, 1, 2, 3))), 2), ("TooMany", {"most": 2000}))

    def test_the_greatest_number_itself(self):
        for size, operations, arity in [(2, (LESSER,), 4), (2, (sum_of_three(2),), 5), (3, (TURN_THREE,), 2), (4, (), 4),
                                        (2, (NAND,), 2)]:
            projections = [projection(size, arity, place)[1] for place in range(arity)]
            number = len(generated(size, operations, arity))
            self.assertIs(Making(size, operations, projections, number).make(), True)
            self.assertIs(Making(size, operations, projections, number - 1).make(), False)

    def test_lists_are_new(self):
        generated(2, (LESSER,), 2).append(None)
        self.assertEqual(len(generated(2, (LESSER,), 2)), 3)
        polymorphisms(UNLIKE, 1).append(None)
        self.assertEqual(len(polymorphisms(UNLIKE, 1)), 2)


class TermTest(unittest.TestCase):

    def test_a_term_for_each_operation_made(self):
        for size, operations, arity in GeneratedTest().some_given(5):
            made = generated(size, operations, arity)
            for goal in made[:10] + made[-5:]:
                term = term_for(size, operations, goal)
                self.assertLessEqual(len(term), 2000)
                self.assertEqual(run_term(size, operations, arity, term), goal)

    def test_none_for_all_others(self):
        for size, operations, arity in [(2, (LESSER,), 2), (2, (TURN,), 2), (2, (), 2), (3, ((1, (1, 2, 0)),), 1), (2, (NAND,), 1)]:
            made = generated(size, operations, arity)
            for table in rows_of(size, size ** arity):
                term = term_for(size, operations, (arity, table))
                self.assertIs(term is None, (arity, table) not in made)

    def test_long_terms(self):
        goal = made_by(2, 8, lambda *row: sum(row) % 2)
        operations = ((2, (0, 1, 1, 0)),)
        self.assertEqual(run_term(2, operations, 8, term_for(2, operations, goal)), goal)
        self.assertEqual(run_term(2, operations, 8, (("input", 7),) + (("apply", 0, (0, 0)),) * 1999), (8, (0,) * 256))

    def test_each_kind_of_step(self):
        self.assertEqual(run_term(2, (NAND,), 1, (("input", 0), ("apply", 0, (0, 0)))), TURN)
        self.assertEqual(run_term(3, (), 2, (("input", 1),)), projection(3, 2, 1))
        self.assertEqual(run_term(3, (), 2, (("input", 1), ("input", 0))), projection(3, 2, 0))
        # The lesser one of two by two steps, the first one of them used twice.
        term = (("input", 0), ("input", 1), ("apply", 1, (0, 1)), ("apply", 0, (2,)))
        self.assertEqual(run_term(2, (TURN, NAND), 2, term), LESSER)
        # The order of the places counts: if the first is 1, then the second.
        implies = (2, (1, 1, 0, 1))
        self.assertEqual(run_term(2, (implies,), 2, term[:2] + (("apply", 0, (0, 1)),)), implies)
        self.assertEqual(run_term(2, (implies,), 2, term[:2] + (("apply", 0, (1, 0)),)), (2, (1, 0, 1, 1)))

    def test_no_tuple_of_steps(self):
        step = ("input", 0)
        bad = [None, 0, True, "input", [], [step], {}, {0: step}, (), (step,) * 2001, (None,) * 2001]
        check_bad(self, run_term, [2, (NAND,), 1, None], 3, bad, BadTerm, {"index": None})
        self.assertEqual(run_term(2, (NAND,), 1, (step,) * 2000), (1, (0, 1)))

    def test_what_is_no_step(self):
        bad = [None, 0, True, "", (), ("input",), ("input", 0, 0), ["input", 0], ("input", 2), ("input", -1), ("input", True),
               ("input", False), ("input", None), ("input", (0,)), ("input", 10 ** 40), ("Input", 0), ("apply", 0),
               ("apply", 0, (0, 0), 0), ["apply", 0, (0, 0)], ("apply", 2, (0, 0)), ("apply", -1, (0,)), ("apply", True, (0,)),
               ("apply", False, (0, 0)), ("apply", None, (0,)), ("apply", 0, [0, 0]), ("apply", 0, 0), ("apply", 0, None),
               ("apply", 0, ()), ("apply", 0, (0,)), ("apply", 0, (0, 0, 0)), ("apply", 1, (0, 0)), ("apply", 0, (0, 2)),
               ("apply", 0, (-1, 0)), ("apply", 0, (0, True)), ("apply", 0, (False, 0)), ("apply", 0, (0, None)),
               ("apply", 0, (0, "0")), ("apply", 0, (0, 10 ** 40)), ("input", 0, (0, 0)), (None, 0), ((), 0, (0, 0))]
        for value in bad:
            steps = (("input", 0), ("input", 1), value, None)
            with self.subTest(value=shown(value)):
                self.assertEqual(told(run_term, 2, (NAND, TURN), 2, steps), ("BadTerm", {"index": 2}))
        for index in (0, 1, 1999):
            steps = (("input", 0),) * index + (("apply", 0, (0, index)),) + (None,) * (1999 - index)
            self.assertEqual(told(run_term, 2, (NAND,), 2, steps), ("BadTerm", {"index": index}))
        self.assertEqual(told(run_term, 2, (), 2, (("input", 0), ("apply", 0, (0, 0)))), ("BadTerm", {"index": 1}))
        self.assertEqual(told(run_term, 2, (), 2, (("apply", -1, (0, 0)),)), ("BadTerm", {"index": 0}))


class WrongValuesTest(unittest.TestCase):

    calls = [(generated, [2]), (term_for, [LESSER]), (run_term, [2, (("input", 0),)])]

    def test_sizes(self):
        for function, others in self.calls:
            check_bad(self, function, [2, (NAND,)] + others, 0, BAD_SIZES, BadSize)

    def test_given_operations(self):
        no_tuple = [None, 0, True, "", [], [NAND], {}, {0: NAND}, (NAND,) * 5, (None,) * 5]
        for function, others in self.calls:
            check_bad(self, function, [2, None] + others, 1, no_tuple, BadArguments)
            bad = [(part,) for part in bad_operations(2)] + [(NAND, None), (NAND, NAND, NAND, [1]), NAND, (LESSER, (1, (0, 2)))]
            check_bad(self, function, [2, None] + others, 1, bad, BadOperation)
            self.assertEqual(told(function, 2, (NAND,) * 4, *others)[0], "answer")

    def test_arities(self):
        for size in range(1, 5):
            check_bad(self, generated, [size, (), None], 2, bad_arities(size), BadArity)
            check_bad(self, run_term, [size, (), None, (("input", 0),)], 2, bad_arities(size), BadArity)

    def test_goals(self):
        for size in range(1, 5):
            check_bad(self, term_for, [size, (), None], 2, bad_operations(size), BadOperation)

    def test_leftmost_error(self):
        size, arity = (0, BadSize, {}), (9, BadArity, {})
        for given in (([NAND], BadArguments, {}), ((NAND, None), BadOperation, {})):
            check_leftmost(self, generated, [2, (), 2], [size, given, arity])
            check_leftmost(self, term_for, [2, (), LESSER], [size, given, ((9, ()), BadOperation, {})])
            right = [2, (), 2, (("input", 0),)]
            check_leftmost(self, run_term, right, [size, given, arity, ((None,), BadTerm, {"index": 0})])
        check_leftmost(self, polymorphisms, [UNLIKE, 2], [((2, None), BadTemplate, {"index": None}), arity])

    def test_too_many_comes_last(self):
        self.assertEqual(told(term_for, 2, (NAND,), (4, (0,))), ("BadOperation", {}))
        self.assertEqual(told(generated, 2, (NAND,), 9), ("BadArity", {}))
        self.assertEqual(told(polymorphisms, (4, ((4, tuple(rows_of(4, 4))),)), 5), ("BadArity", {}))

    def test_any_value(self):
        check_any_value(self, polymorphisms, [UNLIKE, 2], [value for value in ODD if value not in (4, 5)])
        check_any_value(self, generated, [2, (LESSER,), 2])
        check_any_value(self, term_for, [2, (LESSER,), LESSER])
        check_any_value(self, run_term, [2, (NAND,), 1, (("input", 0), ("apply", 0, (0, 0)))])


if __name__ == "__main__":
    unittest.main()
