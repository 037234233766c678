"""Templates and operations on two values (points 22 and 23)."""

import itertools
import random
import unittest

from templates.booleans import classes, gadget, has_not, kinds, nand_term
from templates.clones import run_term
from templates.errors import BadArguments, BadOperation, BadTemplate, NotBoolean
from templates.formulas import tells
from tests.tools import (
    ODD, bad_operations, bad_relations, check_any_value, check_bad, check_leftmost, plain_breaks, plain_closure,
    rows_of, shown, some_operation, some_relation, told)

ONE_OF_THREE = (3, ((0, 0, 1), (0, 1, 0), (1, 0, 0)))
NOT_ALL_EQUAL = (3, tuple(row for row in rows_of(2, 3) if 0 < sum(row) < 3))
UNLIKE = (2, ((0, 1), (1, 0)))
ORDER = (2, ((0, 0), (0, 1), (1, 1)))
NAMES = ("zero", "one", "and", "or", "majority", "sum")
NAND = (2, (1, 1, 1, 0))
PLAIN_KINDS = {
    "zero": (1, lambda x: 0), "one": (1, lambda x: 1), "and": (2, lambda x, y: min(x, y)), "or": (2, lambda x, y: max(x, y)),
    "majority": (3, lambda x, y, z: sorted((x, y, z))[1]), "sum": (3, lambda x, y, z: (x + y + z) % 2),
}


def table_of(arity, value):
    return (arity, tuple(value(*arguments) for arguments in rows_of(2, arity)))


def plain_has(template, operation):
    return all(plain_breaks(2, operation, relation) is None for relation in template[1])


def plain_kinds(template):
    return tuple(name for name in NAMES if plain_has(template, table_of(*PLAIN_KINDS[name])))


def some_questions():
    """Templates on two values: all with one relation of at most three places, and some with several."""
    for arity in (1, 2, 3):
        rows = rows_of(2, arity)
        for many in range(len(rows) + 1):
            for part in itertools.combinations(rows, many):
                yield (2, ((arity, part),))
    yield (2, ())
    chance = random.Random(22)
    for _ in range(250):
        relations = [some_relation(2, chance.randint(1, 4), chance.choice((2, 6, 14)), chance) for _ in range(chance.randint(1, 6))]
        yield (2, tuple(relations))


def closed_by_exchange(relation):
    arity, rows = relation
    return (arity, tuple(sorted(set(rows) | {tuple(1 - value for value in row) for row in rows})))


class KindsTest(unittest.TestCase):

    def test_against_the_operations(self):
        seen = set()
        for template in some_questions():
            right = plain_kinds(template)
            seen |= set(right)
            self.assertEqual(kinds(template), right, template)
        self.assertEqual(seen, set(NAMES))

    def test_by_hand(self):
        self.assertEqual(kinds((2, ())), NAMES)
        self.assertEqual(kinds((2, (UNLIKE,))), ("majority", "sum"))
        self.assertEqual(kinds((2, (ORDER,))), ("zero", "one", "and", "or", "majority"))
        self.assertEqual(kinds((2, ((1, ((0,),)), (1, ((1,),))))), ("and", "or", "majority", "sum"))
        self.assertEqual(kinds((2, ((1, ()),))), NAMES)
        self.assertEqual(kinds((2, (ONE_OF_THREE,))), ())
        self.assertEqual(kinds((2, (NOT_ALL_EQUAL,))), ())

    def test_has_not(self):
        seen = set()
        for template in some_questions():
            right = plain_has(template, (1, (1, 0)))
            seen.add(right)
            self.assertIs(has_not(template), right, template)
        self.assertEqual(seen, {True, False})


class GadgetTest(unittest.TestCase):

    def check_gadget(self, template):
        formula = gadget(template)
        if plain_kinds(template):
            self.assertIsNone(formula, template)
        else:
            right = NOT_ALL_EQUAL if plain_has(template, (1, (1, 0))) else ONE_OF_THREE
            self.assertEqual(tells(template, formula), right, template)
        return formula

    def test_there_is_one_where_there_is_no_kind(self):
        seen = set()
        for template in some_questions():
            if sum(len(rows) ** 3 for _, rows in template[1]) <= 4000:
                seen.add((self.check_gadget(template) is None, has_not(template)))
        self.assertEqual(seen, {(True, True), (True, False), (False, False), (False, True)})

    def test_relations_that_the_exchange_keeps(self):
        chance = random.Random(5)
        many = 0
        for _ in range(150):
            relations = [closed_by_exchange(some_relation(2, chance.randint(2, 4), 4, chance)) for _ in range(chance.randint(1, 3))]
            template = (2, tuple(relations))
            self.assertIs(has_not(template), True)
            many += self.check_gadget(template) is not None
        self.assertGreater(many, 20)

    def test_famous_templates(self):
        clauses = tuple((3, tuple(row for row in rows_of(2, 3) if row != out))
                        for out in ((0, 0, 0), (0, 0, 1), (0, 1, 1), (1, 1, 1)))
        for relations in ((ONE_OF_THREE,), (NOT_ALL_EQUAL,), clauses, (UNLIKE, ONE_OF_THREE), (NOT_ALL_EQUAL, UNLIKE)):
            self.assertIsNotNone(self.check_gadget((2, relations)))

    def test_4000(self):
        rows = rows_of(2, 4)
        ten = (4, tuple(row for row in rows if sum(row) in (1, 2)))
        other = (4, tuple(row for row in rows if sum(row) in (2, 3)))
        self.assertEqual((len(ten[1]), len(other[1])), (10, 10))
        just = (2, (ten, other, ten, other))
        self.assertEqual(kinds(just), ())
        self.assertEqual(tells(just, gadget(just)), NOT_ALL_EQUAL if has_not(just) else ONE_OF_THREE)
        self.assertEqual(told(gadget, (2, just[1] + ((1, ()),)))[0], "answer")
        self.assertEqual(told(gadget, (2, just[1] + ((1, ((1,),)),))), ("TooMany", {"most": 4000}))
        # Sixteen rows of four places have the cube 4096, and keep everything.
        self.assertEqual(told(gadget, (2, ((4, tuple(rows)), ONE_OF_THREE))), ("TooMany", {"most": 4000}))

    def test_no_bound_where_there_is_some_kind(self):
        rows = tuple(rows_of(2, 4))
        self.assertIsNone(gadget((2, ((4, rows),))))
        self.assertIsNone(gadget((2, ((4, rows),) * 6)))
        self.assertIsNone(gadget((2, ((4, rows[1:]),) * 6)))
        self.assertIsNone(gadget((2, ((4, rows),) * 5 + (UNLIKE,))))


class NotBooleanTest(unittest.TestCase):

    def test_other_sizes(self):
        for function in (kinds, has_not, gadget):
            for size in (1, 3, 4):
                great = (4, tuple(rows_of(size, 4)))
                for relations in ((), ((1, ((0,),)),), (great,) * 6):
                    self.assertEqual(told(function, (size, relations)), ("NotBoolean", {}))

    def test_templates_come_first(self):
        for function in (kinds, has_not, gadget):
            for size in (1, 2, 3, 4):
                for bad in bad_relations(size):
                    self.assertEqual(told(function, (size, ((1, ()), bad))), ("BadTemplate", {"index": 1}), shown(bad))
            check_bad(self, function, [None], 0, [None, True, 2, (), (2,), (0, ()), (True, ()), [2, ()], (2, [])], BadTemplate,
                      {"index": None})
            self.assertEqual(told(function, (3, ()))[0], NotBoolean.__name__)

    def test_any_value(self):
        for function in (kinds, has_not, gadget):
            check_any_value(self, function, [(2, (ONE_OF_THREE,))])


def is_linear(table):
    """Whether an operation is a sum of some of its arguments, and perhaps 1, modulo 2."""
    arity = len(table).bit_length() - 1
    rows = rows_of(2, arity)
    ones = [(table[1 << (arity - 1 - k)] + table[0]) % 2 for k in range(arity)]
    return all((table[0] + sum(a * b for a, b in zip(ones, row))) % 2 == value for row, value in zip(rows, table))


def is_rising(table):
    """Whether an operation never falls when one argument rises."""
    many = len(table)
    return all(table[at] <= table[at | bit] for at in range(many) for bit in [1 << k for k in range(many.bit_length() - 1)])


def plain_classes(operations):
    tables = [table for _, table in operations]
    right = {
        "zero": all(table[0] == 0 for table in tables), "one": all(table[-1] == 1 for table in tables),
        "order": all(is_rising(table) for table in tables),
        "dual": all(all(a != b for a, b in zip(table, reversed(table))) for table in tables),
        "sum": all(is_linear(table) for table in tables),
    }
    return tuple(name for name in ("zero", "one", "order", "dual", "sum") if right[name])


def some_member(name, arity, chance):
    """An operation of the class, or any one."""
    many = 2 ** arity
    table = [chance.randint(0, 1) for _ in range(many)]
    if name == "zero":
        table[0] = 0
    elif name == "one":
        table[-1] = 1
    elif name == "order":
        bound = chance.randint(0, arity + 1)
        table = [int(sum(row) >= bound) for row in rows_of(2, arity)]
    elif name == "dual":
        table = table[:many // 2] + [1 - value for value in reversed(table[:many // 2])]
    elif name == "sum":
        used = [chance.randint(0, 1) for _ in range(arity + 1)]
        table = [(used[-1] + sum(a * b for a, b in zip(used, row))) % 2 for row in rows_of(2, arity)]
    return (arity, tuple(table))


class ClassesTest(unittest.TestCase):

    def test_no_operations(self):
        self.assertEqual(classes(()), ("zero", "one", "order", "dual", "sum"))
        self.assertIsNone(nand_term(()))

    def test_all_small_operations(self):
        for arity in (1, 2):
            for table in itertools.product((0, 1), repeat=2 ** arity):
                operation = (arity, table)
                self.assertEqual(classes((operation,)), plain_classes([operation]))
                for other in itertools.product((0, 1), repeat=4):
                    self.assertEqual(classes((operation, (2, other))), plain_classes([operation, (2, other)]))

    def test_up_to_four_operations_of_up_to_eight_arguments(self):
        chance = random.Random(23)
        seen = set()
        for _ in range(400):
            name = chance.choice(("zero", "one", "order", "dual", "sum", None))
            operations = tuple(some_member(name, chance.randint(1, 8), chance) for _ in range(chance.randint(1, 4)))
            right = plain_classes(operations)
            seen.add(right)
            self.assertEqual(classes(operations), right, operations)
        self.assertGreaterEqual(len(seen), 8)

    def test_one_value_changed(self):
        chance = random.Random(24)
        for name in ("order", "dual", "sum"):
            for place in range(0, 256, 5):
                arity, table = some_member(name, 8, chance)
                bent = (arity, table[:place] + (1 - table[place],) + table[place + 1:])
                self.assertEqual(classes((bent,)), plain_classes([bent]))


class NandTermTest(unittest.TestCase):

    def check_term(self, operations):
        term = nand_term(operations)
        self.assertIs(term is None, plain_classes(operations) != (), operations)
        if term is not None:
            self.assertEqual(run_term(2, operations, 2, term), NAND)
        return term is not None

    def test_against_the_classes(self):
        chance = random.Random(25)
        seen = [0, 0]
        for _ in range(300):
            operations = tuple(some_operation(2, chance.randint(1, 3), chance) for _ in range(chance.randint(0, 4)))
            seen[self.check_term(operations)] += 1
        self.assertGreater(min(seen), 50)

    def test_against_what_is_made(self):
        chance = random.Random(26)
        for _ in range(60):
            operations = tuple(some_operation(2, chance.randint(1, 2), chance) for _ in range(chance.randint(0, 3)))
            self.assertIs(nand_term(operations) is not None, NAND in plain_closure(2, operations, 2), operations)

    def test_one_operation_less_than_needed(self):
        # Without any one of them some class has all of the others.
        for operations in [(NAND,), ((2, (1, 0, 0, 0)),), ((1, (1, 0)), (2, (0, 0, 0, 1))), ((1, (0, 0)), (2, (1, 0, 1, 1)))]:
            self.assertTrue(self.check_term(operations), operations)
            for gone in range(len(operations)):
                left = operations[:gone] + operations[gone + 1:]
                self.assertFalse(self.check_term(left))

    def test_many_arguments(self):
        chance = random.Random(27)
        seen = set()
        for arity in (4, 5, 6, 7, 8):
            for name in ("zero", "one", "order", "dual", "sum", None):
                seen.add(self.check_term((some_member(name, arity, chance),)))
                seen.add(self.check_term((some_member(name, arity, chance), some_member(name, 2, chance))))
        self.assertEqual(seen, {True, False})


class WrongOperationsTest(unittest.TestCase):

    def test_errors(self):
        right = (1, (0, 1))
        for function in (classes, nand_term):
            bad = [None, 0, True, "", [], [right], {}, {0: right}, (right,) * 5, (None,) * 5, ((1, (2, 2)),) * 5]
            check_bad(self, function, [None], 0, bad, BadArguments)
            for operation in bad_operations(2):
                for operations in ((operation,), (right, operation), (operation, right), (right, right, right, operation)):
                    self.assertEqual(told(function, operations), ("BadOperation", {}), shown(operation))
            check_bad(self, function, [None], 0, [(1, (0, 1)), (right, None), ((3, (0,) * 27),)], BadOperation)

    def test_leftmost_error(self):
        for function in (classes, nand_term):
            check_leftmost(self, function, [((1, (0, 1)),)], [((None,) * 5, BadArguments, {})])

    def test_any_value(self):
        for function in (classes, nand_term):
            check_any_value(self, function, [((1, (0, 1)),)], ODD + [((1, (0, True)),), ((1, [0, 1]),), ([1, (0, 1)],)])


if __name__ == "__main__":
    unittest.main()
