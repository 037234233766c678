"""Operations and what they keep (points 3, 4 and 8)."""

import itertools
import random
import unittest

from templates.errors import BadArguments, BadArity, BadNames, BadOperation, BadPlaces, BadRelation, BadSize
from templates.operations import apply, breaks, compose, keeps, projection, renamed_operation
from templates.relations import full, glued, meet, picked, product
from tests.tools import (
    BAD_SIZES, bad_names, bad_operations, bad_relations, check_any_value, check_bad, check_leftmost,
    plain_breaks, rows_of, some_operation, some_relation, some_relations, value_at)

SIZES = range(1, 5)
GREATEST = {1: 8, 2: 8, 3: 5, 4: 4}
LESSER = (2, (0, 0, 0, 1))
ORDER = (2, ((0, 0), (0, 1), (1, 1)))
UNLIKE = (2, ((0, 1), (1, 0)))


class ValuesTest(unittest.TestCase):

    def test_apply(self):
        chance = random.Random(1)
        for size in SIZES:
            for arity in range(1, GREATEST[size] + 1):
                operation = some_operation(size, arity, chance)
                for arguments, value in zip(rows_of(size, arity), operation[1]):
                    self.assertEqual(apply(size, operation, arguments), value)

    def test_apply_by_hand(self):
        self.assertEqual(apply(3, (2, (0, 1, 2, 1, 1, 0, 2, 0, 2)), (1, 2)), 0)
        self.assertEqual(apply(3, (2, (0, 1, 2, 1, 1, 0, 2, 0, 2)), (2, 0)), 2)

    def test_projection(self):
        for size in SIZES:
            for arity in range(1, GREATEST[size] + 1):
                for place in range(arity):
                    table = tuple(row[place] for row in rows_of(size, arity))
                    self.assertEqual(projection(size, arity, place), (arity, table))

    def test_compose(self):
        chance = random.Random(2)
        for size in SIZES:
            for outer, inner in [(1, 1), (1, 2), (2, 1), (2, 2), (3, 2), (1, GREATEST[size]), (GREATEST[size], 1),
                                 (2, GREATEST[size]), (GREATEST[size], 2), (GREATEST[size], GREATEST[size])]:
                operation = some_operation(size, outer, chance)
                parts = tuple(some_operation(size, inner, chance) for _ in range(outer))
                composed = compose(size, operation, parts)
                self.assertEqual(composed[0], inner)
                self.assertEqual(len(composed[1]), size ** inner)
                for place, arguments in enumerate(rows_of(size, inner)):
                    if place < 60:
                        values = [value_at(size, part, arguments) for part in parts]
                        self.assertEqual(composed[1][place], value_at(size, operation, values))

    def test_compose_by_hand(self):
        less = (2, (1, 1, 1, 0))
        self.assertEqual(compose(2, less, ((1, (0, 1)), (1, (0, 1)))), (1, (1, 0)))
        self.assertEqual(compose(2, (1, (1, 0)), (LESSER,)), less)

    def test_renamed_operation(self):
        chance = random.Random(3)
        for size in SIZES:
            for arity in range(1, min(3, GREATEST[size]) + 1):
                operation = some_operation(size, arity, chance)
                for names in itertools.permutations(range(size)):
                    new = renamed_operation(size, operation, names)
                    self.assertEqual(new[0], arity)
                    for arguments in rows_of(size, arity):
                        moved = [names[argument] for argument in arguments]
                        self.assertEqual(value_at(size, new, moved), names[value_at(size, operation, arguments)])

    def test_renamed_operation_by_hand(self):
        self.assertEqual(renamed_operation(2, LESSER, (1, 0)), (2, (0, 1, 1, 1)))
        self.assertEqual(renamed_operation(3, (1, (1, 1, 2)), (1, 2, 0)), (1, (0, 2, 2)))

    def test_greatest_arity(self):
        for size, most in GREATEST.items():
            table = (0,) * size ** most
            self.assertEqual(apply(size, (most, table), (size - 1,) * most), 0)
            self.assertEqual(renamed_operation(size, (most, table), tuple(range(size))), (most, table))
            self.assertEqual(keeps(size, (most, table), (1, ((0,),))), True)


class KeepsTest(unittest.TestCase):

    def test_against_all_tuples_of_rows(self):
        chance = random.Random(4)
        for size, arity, many in itertools.product(SIZES, range(1, 5), range(1, 4)):
            for _ in range(12):
                relation = some_relation(size, arity, {1: 20, 2: 20, 3: 8}[many], chance)
                operation = some_operation(size, many, chance)
                if chance.random() < 0.4:
                    operation = projection(size, many, chance.randrange(many))
                expected = plain_breaks(size, operation, relation)
                self.assertEqual(breaks(size, operation, relation), expected)
                self.assertIs(keeps(size, operation, relation), expected is None)

    def test_many_arguments(self):
        chance = random.Random(5)
        for size, most in GREATEST.items():
            for _ in range(10):
                operation = some_operation(size, most, chance)
                relation = some_relation(size, chance.randint(1, 4), 3, chance)
                self.assertEqual(breaks(size, operation, relation), plain_breaks(size, operation, relation))

    def test_by_hand(self):
        self.assertIs(keeps(2, LESSER, ORDER), True)
        self.assertIs(keeps(2, LESSER, UNLIKE), False)
        self.assertIsNone(breaks(2, LESSER, ORDER))
        self.assertEqual(breaks(2, LESSER, UNLIKE), ((0, 1), (1, 0)))
        self.assertEqual(breaks(2, (1, (1, 0)), ORDER), ((0, 1),))
        self.assertEqual(breaks(2, (1, (1, 1)), (1, ((0,),))), ((0,),))

    def test_breaks_is_the_least_tuple_of_rows(self):
        # Only (0, 2) and (2, 0) are carried outside, to 1.
        other = (2, (0, 0, 1, 0, 0, 0, 1, 2, 2))
        self.assertEqual(breaks(3, other, (1, ((0,), (2,)))), ((0,), (2,)))
        # What an earlier row leaves open is the same for both rows of the relation.
        second = (2, (0, 1, 0, 1))
        self.assertIsNone(breaks(2, second, UNLIKE))
        turned = (2, (1, 0, 1, 0))
        self.assertEqual(breaks(2, turned, (2, ((0, 0), (0, 1)))), ((0, 0), (0, 0)))

    def test_no_rows_and_all_rows(self):
        chance = random.Random(6)
        for size in SIZES:
            for arity in range(1, 5):
                operation = some_operation(size, GREATEST[size], chance)
                for relation in ((arity, ()), full(size, arity)):
                    self.assertIs(keeps(size, operation, relation), True)
                    self.assertIsNone(breaks(size, operation, relation))

    def test_many_rows_and_arguments_end(self):
        rows = tuple(row for row in rows_of(2, 4) if row != (1, 1, 1, 1))
        least = (8, tuple(min(arguments) for arguments in rows_of(2, 8)))
        greatest = (8, tuple(max(arguments) for arguments in rows_of(2, 8)))
        self.assertIs(keeps(2, least, (4, rows)), True)
        self.assertEqual(breaks(2, greatest, (4, rows))[:6], ((0, 0, 0, 0),) * 6)


class MadeOfKeptTest(unittest.TestCase):
    """Point 8, as far as it speaks of relations."""

    def kept_relations(self, size, operation, chance):
        kept = []
        for arity in (1, 2, 2, 3):
            for relation in some_relations(size, arity, chance, 6):
                if keeps(size, operation, relation):
                    kept.append(relation)
        return kept

    def test_what_is_made_of_kept_relations_is_kept(self):
        chance = random.Random(7)
        for size in (2, 3, 4):
            special = [(2, tuple(min(row) for row in rows_of(size, 2))),
                       (2, tuple(max(row) for row in rows_of(size, 2))),
                       (3, tuple(sorted(row)[1] for row in rows_of(size, 3))),
                       (3, tuple((a - b + c) % size for a, b, c in rows_of(size, 3)))]
            for operation in special + [some_operation(size, many, chance) for many in (1, 1, 2)]:
                self.check(size, operation, self.kept_relations(size, operation, chance), chance)

    def check(self, size, operation, kept, chance):
        for _ in range(25):
            one, other = chance.choice(kept), chance.choice(kept)
            made = [picked(size, one, tuple(chance.randrange(one[0]) for _ in range(chance.randint(1, 3)))),
                    glued(size, one, (chance.randrange(one[0]), chance.randrange(one[0])))]
            if one[0] == other[0]:
                made.append(meet(size, one, other))
            if one[0] + other[0] <= 4:
                made.append(product(size, one, other))
            for relation in made:
                if len(relation[1]) ** operation[0] < 100000:
                    self.assertIs(keeps(size, operation, relation), True)

    def test_full_relations_are_kept(self):
        chance = random.Random(8)
        for size, arity, many in itertools.product(SIZES, range(1, 5), range(1, 5)):
            self.assertIs(keeps(size, some_operation(size, many, chance), full(size, arity)), True)

    def test_projections_keep_everything(self):
        chance = random.Random(9)
        for size, arity in itertools.product(SIZES, range(1, 4)):
            for relation in some_relations(size, arity, chance):
                self.assertIs(keeps(size, projection(size, 3, chance.randrange(3)), relation), True)

    def test_compositions_keep_what_their_parts_keep(self):
        chance = random.Random(10)
        for relation in (ORDER, (3, ((0, 0, 0), (0, 1, 1), (1, 1, 1))), (1, ((1,),))):
            parts = [operation for table in rows_of(2, 4) for operation in [(2, table)] if keeps(2, operation, relation)]
            for _ in range(40):
                made = compose(2, chance.choice(parts), (chance.choice(parts), chance.choice(parts)))
                self.assertIs(keeps(2, made, relation), True)


class WrongValuesTest(unittest.TestCase):

    def test_sizes(self):
        calls = [(apply, LESSER, (0, 0)), (projection, 2, 0), (compose, LESSER, (LESSER, LESSER)),
                 (keeps, LESSER, ORDER), (breaks, LESSER, ORDER), (renamed_operation, LESSER, (0, 1))]
        for function, *others in calls:
            check_bad(self, function, [2] + others, 0, BAD_SIZES, BadSize)

    def test_operations(self):
        for size in SIZES:
            one = (1, (0,) * size)
            bad = bad_operations(size)
            check_bad(self, apply, [size, one, (0,)], 1, bad, BadOperation)
            check_bad(self, compose, [size, one, (one,)], 1, bad, BadOperation)
            check_bad(self, keeps, [size, one, (1, ())], 1, bad, BadOperation)
            check_bad(self, breaks, [size, one, (1, ())], 1, bad, BadOperation)
            check_bad(self, renamed_operation, [size, one, tuple(range(size))], 1, bad, BadOperation)

    def test_arguments(self):
        bad = [None, 0, True, "00", [0, 0], {}, (), (0,), (0, 0, 0), (0, 2), (-1, 0), (0, 10 ** 40), (0, True),
               (False, 0), (0, None), ("0", 0), ((0,), 0)]
        check_bad(self, apply, [2, LESSER, (0, 0)], 2, bad, BadArguments)

    def test_arities_and_places(self):
        for size, most in GREATEST.items():
            bad = [0, most + 1, 9, -1, 10 ** 40, True, None, "1", (1,), [1], {}]
            check_bad(self, projection, [size, 1, 0], 1, bad, BadArity)
            bad = [most, -1, 10 ** 40, False, None, "0", (0,), [0], {}]
            check_bad(self, projection, [size, most, 0], 2, bad, BadPlaces)

    def test_inner(self):
        one = (1, (0, 1))
        bad = [None, 0, True, "", [LESSER, LESSER], {}, (), (LESSER,), (LESSER,) * 3, (LESSER, one), (LESSER, None),
               (LESSER, [2, (0, 0, 0, 1)]), LESSER, (LESSER, (2, (0, 0, 0, True))), (LESSER, (2, (0, 0, 0, 2)))]
        check_bad(self, compose, [2, LESSER, (LESSER, LESSER)], 2, bad, BadArguments)
        check_bad(self, compose, [2, one, (LESSER,)], 2, [(part,) for part in bad_operations(2)], BadArguments)

    def test_relations(self):
        for size in SIZES:
            for function in (keeps, breaks):
                check_bad(self, function, [size, (1, (0,) * size), (1, ())], 2, bad_relations(size), BadRelation)

    def test_names(self):
        for size in SIZES:
            right = [size, (1, (0,) * size), tuple(range(size))]
            check_bad(self, renamed_operation, right, 2, bad_names(size), BadNames)

    def test_leftmost_error(self):
        size, operation = (5, BadSize, {}), ((9, ()), BadOperation, {})
        check_leftmost(self, apply, [2, LESSER, (0, 0)], [size, operation, ((0,), BadArguments, {})])
        check_leftmost(self, projection, [2, 2, 0], [size, (9, BadArity, {}), (10, BadPlaces, {})])
        check_leftmost(self, compose, [2, LESSER, (LESSER,) * 2], [size, operation, ((), BadArguments, {})])
        for function in (keeps, breaks):
            check_leftmost(self, function, [2, LESSER, ORDER], [size, operation, ((0, ()), BadRelation, {})])
        check_leftmost(self, renamed_operation, [2, LESSER, (0, 1)], [size, operation, ((0, 0), BadNames, {})])

    def test_any_value(self):
        check_any_value(self, apply, [2, LESSER, (0, 1)])
        check_any_value(self, projection, [2, 3, 1])
        check_any_value(self, compose, [2, LESSER, (LESSER, LESSER)])
        check_any_value(self, keeps, [2, LESSER, UNLIKE])
        check_any_value(self, breaks, [2, LESSER, UNLIKE])
        check_any_value(self, renamed_operation, [2, LESSER, (1, 0)])


if __name__ == "__main__":
    unittest.main()
