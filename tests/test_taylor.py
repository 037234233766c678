"""Polymorphisms that are no projections, and blockers (points 28 and 29)."""

import itertools
import random
import unittest

from templates.clones import polymorphisms
from templates.conditions import majority
from templates.errors import BadArity, BadSize, BadTemplate
from templates.formulas import hull
from templates.graphs import graph
from templates.structures import is_polymorphism, renamed
from templates.taylor import blocker, cyclic, shows_blocker, siggers, weak_pair
from tests.tools import (
    DEEP, ODD, bad_relations, check_any_value, check_bad, check_leftmost, plain_breaks, rows_of, shown, some_relation, told)

ORDER = (2, ((2, ((0, 0), (0, 1), (1, 1))),))
UNLIKE = (2, ((2, ((0, 1), (1, 0))),))
HARD = (2, ((3, ((0, 0, 1), (0, 1, 0), (1, 0, 0))),))
RING = graph(3, ((0, 1), (0, 2), (1, 2)))
BAD_TEMPLATES = [None, 0, True, "", (), (2,), (0, ()), (5, ()), (True, ()), (2, None), (2, []), [2, ()], {}, (2, ((1, ()),) * 7)]
PLAIN_ACTS = [(2, min), (2, max), (3, lambda x, y, z: sorted((x, y, z))[1]), (3, lambda x, y, z: (x + y + z) % 2)]


def worth(size, operation):
    return dict(zip(rows_of(size, operation[0]), operation[1]))


def is_idempotent(size, s, arity):
    return all(s[(x,) * arity] == x for x in range(size))


def is_siggers(size, operation):
    s = worth(size, operation)
    return operation[0] == 4 and is_idempotent(size, s, 4) and all(
        s[x, y, z, x] == s[y, x, y, z] for x, y, z in rows_of(size, 3))


def near_values(size, s, arity):
    """For each x, y the values where one argument is y and the others are x."""
    return [{s[(x,) * k + (y,) + (x,) * (arity - 1 - k)] for k in range(arity)} for x, y in rows_of(size, 2)]


def is_weak_pair(size, pair):
    (three, _), (four, _) = pair
    v, w = worth(size, pair[0]), worth(size, pair[1])
    if (three, four) != (3, 4) or not is_idempotent(size, v, 3) or not is_idempotent(size, w, 4):
        return False
    return all(len(one | other) == 1 for one, other in zip(near_values(size, v, 3), near_values(size, w, 4)))


def is_cyclic(size, operation, arity):
    c = worth(size, operation)
    return operation[0] == arity and is_idempotent(size, c, arity) and all(
        c[row] == c[row[1:] + row[:1]] for row in rows_of(size, arity))


def plain_has(template, operation):
    return all(plain_breaks(template[0], operation, relation) is None for relation in template[1])


def all_cyclic(size, arity):
    """All idempotent cyclic operations, one choice for each row and what it is turned to."""
    rows = rows_of(size, arity)
    least = {row: min(row[k:] + row[:k] for k in range(arity)) for row in rows}
    turned = sorted(set(least.values()))
    choices = [[row[0]] if len(set(row)) == 1 else list(range(size)) for row in turned]
    for values in itertools.product(*choices):
        told_values = dict(zip(turned, values))
        yield (arity, tuple(told_values[least[row]] for row in rows))


def some_templates(many, seed, sizes=(1, 2, 3, 4), most=4, more=2):
    chance = random.Random(seed)
    for _ in range(many):
        size = chance.choice(sizes)
        yield (size, tuple(some_relation(size, chance.randint(1, 3), most, chance) for _ in range(chance.randint(0, more))))


class EquationsTest(unittest.TestCase):

    def check_siggers(self, template, found):
        if found is not None:
            self.assertTrue(is_siggers(template[0], found), template)
            self.assertTrue(plain_has(template, found), template)

    def test_siggers_against_all_tables(self):
        right = [operation for operation in ((4, table) for table in itertools.product((0, 1), repeat=16))
                 if is_siggers(2, operation)]
        self.assertGreater(len(right), 10)
        seen = set()
        for template in some_templates(120, 1, (2,), 5, 3):
            found = siggers(template)
            self.check_siggers(template, found)
            self.assertIs(found is not None, any(plain_has(template, operation) for operation in right))
            seen.add(found is None)
        self.assertEqual(seen, {True, False})

    def test_siggers_of_greater_sizes(self):
        seen = set()
        for template in some_templates(200, 2, (1, 3, 4)):
            found = siggers(template)
            seen.add((template[0], found is None))
            self.check_siggers(template, found)
        self.assertEqual(seen, {(1, False), (3, True), (3, False), (4, True), (4, False)})

    def test_weak_pairs_against_all_tables(self):
        threes, fours = {}, {}
        for arity, found in ((3, threes), (4, fours)):
            for table in itertools.product((0, 1), repeat=2 ** arity):
                values = near_values(2, worth(2, (arity, table)), arity)
                if is_idempotent(2, worth(2, (arity, table)), arity) and all(len(part) == 1 for part in values):
                    found.setdefault(tuple(min(part) for part in values), []).append((arity, table))
        seen = set()
        # What the lesser of two keeps alone has a weak pair, but no majority.
        horn = (2, ((3, tuple(row for row in rows_of(2, 3) if row != (1, 1, 0))), (1, ((0,),)), (1, ((1,),))))
        self.assertIsNone(majority(horn))
        self.assertIsNotNone(weak_pair(horn))
        every = itertools.chain([horn, renamed(horn, (1, 0))], some_templates(60, 3, (2,), 4, 3), some_templates(40, 11, (2,), 7, 1))
        for template in every:
            right = any(any(plain_has(template, v) for v in threes[key]) and any(plain_has(template, w) for w in fours[key])
                        for key in threes if key in fours)
            found = weak_pair(template)
            seen.add(right)
            self.assertIs(found is not None, right, template)
            if right:
                self.check_pair(template, found)
        self.assertEqual(seen, {True, False})

    def check_pair(self, template, found):
        self.assertIsInstance(found, tuple)
        self.assertTrue(is_weak_pair(template[0], found), template)
        self.assertTrue(all(plain_has(template, operation) for operation in found), template)

    def test_weak_pairs_of_greater_sizes(self):
        seen = set()
        for template in some_templates(250, 4, (1, 3, 4), 4, 3):
            found = weak_pair(template)
            seen.add((template[0], found is None))
            if found is not None:
                self.check_pair(template, found)
        self.assertEqual(seen, {(1, False), (3, True), (3, False), (4, True), (4, False)})

    def test_a_sum_is_no_weak_pair(self):
        plus = (2, ((3, ((0, 0, 0), (0, 1, 1), (1, 0, 1), (1, 1, 0))), (1, ((1,),))))
        self.assertIsNone(weak_pair(plus))
        self.assertIsNotNone(siggers(plus))
        self.assertIsNotNone(cyclic(plus, 3))
        self.assertIsNone(cyclic(plus, 2))
        self.assertIsNone(cyclic(plus, 4))
        self.assertIsNotNone(cyclic(plus, 5))

    def test_cyclic_against_all_tables(self):
        for size, arity, many in [(1, 2, 3), (1, 5, 3), (2, 2, 60), (2, 3, 60), (2, 4, 60), (2, 5, 40), (3, 2, 80), (3, 3, 12), (4, 2, 6)]:
            right = list(all_cyclic(size, arity))
            self.assertTrue(all(is_cyclic(size, operation, arity) for operation in right[:50]))
            for template in some_templates(many, size * 10 + arity, (size,), 3, 3):
                found = cyclic(template, arity)
                if found is None:
                    self.assertFalse(any(plain_has(template, operation) for operation in right), template)
                else:
                    self.assertTrue(is_cyclic(size, found, arity) and plain_has(template, found), template)

    def test_cyclic_of_more_arguments(self):
        seen = set()
        for template in some_templates(120, 5, (3, 4)):
            for arity in (3, 4, 5):
                kind, found = told(cyclic, template, arity)
                if kind == "answer" and found is not None:
                    self.assertTrue(is_cyclic(template[0], found, arity) and plain_has(template, found))
                seen.add((template[0], arity, kind, found is None if kind == "answer" else str(found)))
        for size, arity in [(3, 3), (3, 4), (3, 5), (4, 3), (4, 4)]:
            self.assertTrue({(size, arity, "answer", True), (size, arity, "answer", False)} <= seen)

    def test_primes_greater_than_the_size(self):
        seen = set()
        for template in some_templates(250, 6, (1, 2, 3), 4, 3):
            for arity in (2, 3, 5):
                if arity > template[0]:
                    found = cyclic(template, arity)
                    seen.add((template[0], arity, found is None))
                    self.assertIs(found is None, siggers(template) is None, (template, arity))
        self.assertGreaterEqual(len(seen), 3 + 4 + 2)

    def test_by_hand(self):
        self.assertIsNone(siggers(HARD))
        self.assertIsNone(siggers(RING))
        self.assertIsNone(weak_pair(RING))
        self.assertIsNotNone(siggers(graph(3, ((0, 1), (1, 2)))))
        self.assertIsNotNone(weak_pair(ORDER))
        self.assertEqual(cyclic(ORDER, 2), cyclic(ORDER, 2))
        self.assertIn(cyclic(ORDER, 2), [(2, (0, 0, 0, 1)), (2, (0, 1, 1, 1))])
        self.assertEqual([siggers((1, ())), cyclic((1, ((1, ()),)), 5)], [(4, (0,)), (5, (0,))])


def best_sums(power, most=4000):
    """Numbers of rows, of up to six relations, whose powers add up to just most or less, and to little more."""
    counts = [sum(count ** k for k in power) for count in range(17)]
    sums = {}
    for many in range(1, 7):
        for chosen in itertools.combinations_with_replacement(range(16, -1, -1), many):
            sums.setdefault(sum(counts[count] for count in chosen), chosen)
    return sums[max(total for total in sums if total <= most)], sums[min(total for total in sums if total > most)]


def filled(size, counts):
    """A template whose relations have so many rows."""
    rows = rows_of(size, 4)
    return (size, tuple((4, tuple(rows[:count])) for count in counts))


class BoundsTest(unittest.TestCase):

    def check_bounds(self, function, rest, power, sizes=(2, 3, 4)):
        within, over = best_sums(power)
        for size in sizes:
            self.assertEqual(told(function, filled(size, within), *rest)[0], "answer", (function.__name__, within))
            self.assertEqual(told(function, filled(size, over), *rest), ("TooMany", {"most": 4000}), (function.__name__, over))
            self.assertEqual(told(function, filled(size, (16,) * 6), *rest)[0], "TooMany" if power != (2,) else "answer")

    def test_4000(self):
        self.check_bounds(siggers, [], (4,))
        self.check_bounds(weak_pair, [], (3, 4))
        for arity in (3, 4):
            self.check_bounds(cyclic, [arity], (arity,))
        self.check_bounds(cyclic, [5], (5,), (2, 3))
        # Two arguments: more rows than 16 are needed.
        many = (4, tuple(rows_of(4, 4)[:63]))
        self.assertEqual(told(cyclic, (4, (many, (4, many[1][:5]), (4, many[1][:2]), (4, many[1][:1]), (1, ((0,),)))), 2)[0], "answer")
        self.assertEqual(told(cyclic, (4, (many, (4, many[1][:5]), (4, many[1][:2]), (4, many[1][:2]))), 2), ("TooMany", {"most": 4000}))

    def test_4000_of_blockers(self):
        self.check_bounds(blocker, [], (3,), (2,))
        self.check_bounds(blocker, [], (4,), (3,))
        self.check_bounds(shows_blocker, [((0, 1), (0,))], (3,), (2,))
        self.check_bounds(shows_blocker, [None], (4,), (3,))
        # One value: no template has more than six rows.
        self.assertIsNone(blocker((1, ((4, ((0, 0, 0, 0),)),) * 6)))
        self.assertIs(shows_blocker((1, ((4, ((0, 0, 0, 0),)),) * 6), ((0,), (0,))), False)


class WrongArgumentsTest(unittest.TestCase):

    def test_arities(self):
        for size, right in [(1, (2, 3, 4, 5)), (2, (2, 3, 4, 5)), (3, (2, 3, 4, 5)), (4, (2, 3, 4))]:
            bad = [None, True, False, 0, 1, 6, 7, 8, -2, 10 ** 40, "3", (3,), [3], {}, ()] + [5] * (size == 4)
            check_bad(self, cyclic, [(size, ()), None], 1, bad, BadArity)
            check_bad(self, cyclic, [filled(size, (16,) * 6) if size > 1 else (1, ()), None], 1, bad, BadArity)
            for arity in right:
                self.assertTrue(is_cyclic(size, cyclic((size, ()), arity), arity))

    def test_templates(self):
        for function, rest in [(siggers, []), (weak_pair, []), (cyclic, [3]), (blocker, []), (shows_blocker, [None])]:
            check_bad(self, function, [None] + rest, 0, BAD_TEMPLATES, BadTemplate, {"index": None})
            for size in range(1, 5):
                for bad in bad_relations(size)[::3]:
                    self.assertEqual(told(function, (size, ((1, ()), bad)), *rest), ("BadTemplate", {"index": 1}), shown(bad))
        check_leftmost(self, cyclic, [ORDER, 3], [((2, (None,)), BadTemplate, {"index": 0}), (1, BadArity, {})])

    def test_four_values_have_no_blockers(self):
        for relations in ((), ((1, ((0,),)),), filled(4, (16,) * 6)[1]):
            self.assertEqual(told(blocker, (4, relations)), ("BadSize", {}))
            for value in (None, ((0, 1), (0,))):
                self.assertEqual(told(shows_blocker, (4, relations), value), ("BadSize", {}))
        check_leftmost(self, blocker, [(3, ())], [((4, ()), BadSize, {})])

    def test_any_value(self):
        for function in (siggers, weak_pair, blocker):
            check_any_value(self, function, [HARD])
        check_any_value(self, cyclic, [HARD, 3])
        check_any_value(self, shows_blocker, [HARD, ((0, 1), (0,))])


def all_candidates(size):
    """All pairs of a part and a block, in ascending order."""
    found = []
    for many in range(2, size + 1):
        for part in itertools.combinations(range(size), many):
            for few in range(1, many):
                found += [(part, block) for block in itertools.combinations(part, few) if part[0] in block]
    return sorted(found)


def idempotent(template):
    """The template whose polymorphisms are the idempotent ones: its last relation has all values in one row."""
    size, relations = template
    return (size, relations + ((size, (tuple(range(size)),)),))


def idempotent_polymorphisms(template, arity):
    """All idempotent polymorphisms; None if they are too many."""
    kind, found = told(polymorphisms, idempotent(template), arity)
    return found if kind == "answer" else None


def keeps_blocks(template, part, block):
    """Whether all idempotent polymorphisms of four arguments keep that two of three values are in one block."""
    inner = [pair for pair in itertools.combinations(part, 2) if (pair[0] in block) == (pair[1] in block)]
    rows = tuple(sorted([(value, value) for value in part] + inner))
    return all((a in block) == (b in block) for a, b in hull(idempotent(template), (2, rows))[1])


def some_hard(chance):
    """A template with a relation that is hard on two values, or on two blocks, and some others."""
    part = chance.choice([(0, 1), (0, 2), (1, 2), (0, 1, 2)])
    lone = chance.choice(part)
    hard = [row for row in itertools.product(part, repeat=3) if sum(value == lone for value in row) == 1]
    same = (2, tuple((a, b) for a, b in itertools.product(part, repeat=2) if (a == lone) == (b == lone)))
    relations = [(3, tuple(sorted(chance.sample(hard, min(len(hard), chance.randint(3, 6))))))]
    relations += [same] * chance.randint(0, 1) + [(1, tuple((value,) for value in part))] * chance.randint(0, 1)
    relations += [some_relation(3, chance.randint(1, 3), 4, chance) for _ in range(chance.randint(0, 2))]
    return (3, tuple(relations))


def is_plain_blocker(size, operations, part, block):
    """Whether a pair is a blocker, judged by all of the operations."""
    side = {value: int(value not in block) for value in part}
    for operation in operations:
        told_values = worth(size, operation)
        rows = list(itertools.product(part, repeat=operation[0]))
        if any(told_values[row] not in part for row in rows):
            return False
        acted = {}
        for row in rows:
            acted.setdefault(tuple(side[value] for value in row), set()).add(side[told_values[row]])
        if any(len(values) > 1 for values in acted.values()):
            return False
        for arity, acts in PLAIN_ACTS:
            if arity == operation[0] and all(acted[row] == {acts(*row)} for row in rows_of(2, arity)):
                return False
    return True


class BlockerTest(unittest.TestCase):

    def check_blockers(self, template):
        """Compares all pairs; returns the blockers, None if there are too many operations."""
        size = template[0]
        operations = [idempotent_polymorphisms(template, arity) for arity in (2, 3)]
        if None in operations:
            return None
        right = [pair for pair in all_candidates(size) if is_plain_blocker(size, sum(operations, []), *pair)]
        if size == 3:
            right = [pair for pair in right if len(pair[0]) < 3 or keeps_blocks(template, *pair)]
        self.check_told(template, right)
        return right

    def check_told(self, template, right):
        for pair in all_candidates(template[0]):
            self.assertIs(shows_blocker(template, pair), pair in right, (template, pair))
        self.assertEqual(blocker(template), right[0] if right else None, template)
        kind, found = told(siggers, template)
        if kind == "answer":
            self.assertIs(found is None, bool(right), template)

    def test_two_values(self):
        seen = set()
        for arity in (1, 2, 3):
            for many in range(2 ** arity + 1):
                for rows in itertools.combinations(rows_of(2, arity), many):
                    seen.add(tuple(self.check_blockers((2, ((arity, rows),)))))
        self.assertEqual(seen, {(), (((0, 1), (0,)),)})

    def test_three_values_against_all_operations(self):
        chance = random.Random(7)
        seen = [0, 0]
        for at in range(220):
            template = some_hard(chance) if at % 2 else next(some_templates(1, at, (3,), 4, 5))
            if sum(len(rows) ** 4 for _, rows in template[1]) < 4000:
                found = self.check_blockers(template)
                if found is not None:
                    seen[bool(found)] += 1
        self.assertGreater(min(seen), 5)

    def test_hard_on_two_values_alone(self):
        # Whatever else happens to the third value, so that no other pair is a blocker.
        for part in itertools.combinations(range(3), 2):
            rows = tuple(row for row in itertools.product(part, repeat=3) if row.count(part[1]) == 1)
            self.check_told((3, ((3, rows),)), [(part, part[:1])])

    def test_hard_between_two_blocks_alone(self):
        # Within the block of two values everything may happen, so that no other part is kept.
        for lone in range(3):
            others = [value for value in range(3) if value != lone]
            rows = tuple(sorted(row for row in rows_of(3, 3) if row.count(lone) == 2))
            block = (0,) if lone == 0 else tuple(value for value in range(3) if value != lone)
            self.assertEqual(len(rows), 6)
            self.check_told((3, ((3, rows),)), [((0, 1, 2), block)])
            two = tuple(sorted([(a, b) for a in others for b in others] + [(lone, lone)]))
            self.check_told((3, ((3, rows), (2, two))), [((0, 1, 2), block)])

    def test_hard_on_two_values_with_blocks(self):
        # What is hard on two values is so on the blocks, too, if these are kept.
        for a, b, c in itertools.permutations(range(3)):
            rows = tuple(sorted([(a, a, b), (a, b, a), (b, a, a)]))
            blocks = tuple(sorted([(a, a), (b, b), (b, c), (c, b), (c, c)]))
            whole = ((0, 1, 2), (0,) if a == 0 else tuple(sorted((b, c))))
            part = tuple(sorted((a, b)))
            self.check_told((3, ((3, rows), (2, blocks))), sorted([(part, part[:1]), whole]))

    def test_there_is_one_exactly_without_siggers(self):
        seen = set()
        for template in some_templates(300, 9, (1, 2, 3), 7, 3):
            kind, found = told(siggers, template)
            if kind == "answer":
                seen.add((template[0], found is None))
                self.assertIs(blocker(template) is None, found is not None, template)
        self.assertEqual(len(seen), 5)

    def test_by_hand(self):
        self.assertEqual(blocker(HARD), ((0, 1), (0,)))
        self.assertIsNone(blocker(ORDER))
        self.assertIsNone(blocker(UNLIKE))
        self.assertIsNone(blocker((3, ())))
        self.assertIsNone(blocker((1, ())))
        self.assertEqual(blocker(RING), ((0, 1), (0,)))
        on_two = (3, ((3, ((1, 1, 2), (1, 2, 1), (2, 1, 1))), (1, ((1,), (2,)))))
        self.assertEqual(blocker(on_two), ((1, 2), (1,)))
        self.assertIs(shows_blocker(on_two, ((0, 1), (0,))), False)

    def test_not_only_the_least(self):
        ring = [pair for pair in all_candidates(3) if shows_blocker(RING, pair)]
        self.assertEqual(ring, [((0, 1), (0,)), ((0, 1, 2), (0,)), ((0, 1, 2), (0, 1)), ((0, 1, 2), (0, 2)), ((0, 2), (0,)), ((1, 2), (1,))])

    def test_bent_pairs(self):
        self.assertIs(shows_blocker(RING, ((0, 1, 2), (0, 2))), True)
        bent = [((0, 2, 1), (0, 2)), ((0, 1, 2), (2, 0)), ((0, 1, 2), (1,)), ((0, 1, 2), (1, 2)), ((0, 1, 2), (0, 1, 2)), ((0, 1, 2), ()),
                ((0,), (0,)), ((0, 1), (0, 1)), ((0, 1), (0, 2)), ((1, 0), (1,)), ((0, 1), (1,)), ((0, 0, 1), (0,)), ((0, 1), (0, 0)), ((), ()),
                ((0, True), (0,)), ((False, 1), (0,)), ((0, 1), (False,)), ((0, 3), (0,)), ((-1, 0), (-1,)), ([0, 1], (0,)), ((0, 1), [0]),
                [(0, 1), (0,)], ((0, 1), (0,), ()), ((0, 1),), ((0, 1), 0), ((0, 1), None), (0, 1), None, True, 0, "", {}, {(0, 1): (0,)},
                ((0, 1.0), (0,)), ((0, "1"), (0,)), ((0, 10 ** 40), (0,)), DEEP, (DEEP, DEEP), ((0, 1), DEEP), ((0, 1, 2, 3), (0,))]
        for value in bent:
            with self.subTest(value=shown(value)):
                self.assertIs(shows_blocker(RING, value), False)

    def test_values_of_all_kinds(self):
        for template in (RING, HARD, ORDER, (1, ())):
            for value in ODD:
                with self.subTest(value=shown(value)):
                    self.assertIs(shows_blocker(template, value), False)
                    self.assertIs(shows_blocker(template, (value, (0,))), template in (RING, HARD) and shown(value) == "(0, 1)")
                    self.assertIs(shows_blocker(template, ((0, 1), value)), template in (RING, HARD) and shown(value) == "(0,)")

    def test_what_is_found_is_a_polymorphism_by_the_package_too(self):
        for template in some_templates(60, 10):
            for found in (siggers(template), cyclic(template, 3)):
                self.assertTrue(found is None or is_polymorphism(template, found))


if __name__ == "__main__":
    unittest.main()
