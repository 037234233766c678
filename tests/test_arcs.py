"""Arc consistency, acyclic instances, and set maps (points 20 and 21)."""

import itertools
import random
import unittest

from templates.arcs import arc_domains, is_acyclic, set_instance, set_map, shows_set_map
from templates.errors import BadInstance, BadTemplate
from templates.solving import solve
from tests.tools import (
    DEEP, ODD, check_any_value, check_bad, check_leftmost, plain_solutions, rows_of, shown, some_instance, some_relation,
    some_template, told)

UNLIKE = (2, ((2, ((0, 1), (1, 0))),))
ORDER = (2, ((2, ((0, 0), (0, 1), (1, 1))),))
HORN = (2, ((2, ((0, 0), (0, 1), (1, 1))), (1, ((1,),))))
PLUS = (2, ((3, ((0, 0, 0), (0, 1, 1), (1, 0, 1))), (1, ((0,), (1,))), (4, ((0, 0, 1, 1), (1, 0, 1, 0)))))


def plain_domains(template, instance):
    """The sets of values left, by going through all places again and again."""
    size, relations = template
    count, constraints = instance
    left = [set(range(size)) for _ in range(count)]
    while True:
        gone = set()
        for index, scope in constraints:
            held = [row for row in relations[index][1] if all(value in left[k] for k, value in zip(scope, row))]
            for place, variable in enumerate(scope):
                gone |= {(variable, value) for value in left[variable] if all(row[place] != value for row in held)}
        if not gone:
            return None if set() in left else tuple(tuple(sorted(part)) for part in left)
        for variable, value in gone:
            left[variable].discard(value)


def plain_is_acyclic(instance):
    """Whether some order of all constraints is one in which they can be taken away."""
    scopes = [scope for _, scope in instance[1]]
    if any(len(set(scope)) < len(scope) for scope in scopes):
        return False

    def is_right(order):
        for at, index in enumerate(order):
            others = {k for later in order[at + 1:] for k in scopes[later]}
            if len(set(scopes[index]) & others) > 1:
                return False
        return True
    return any(is_right(order) for order in itertools.permutations(range(len(scopes))))


def sets_of(size):
    return sorted(part for many in range(1, size + 1) for part in itertools.combinations(range(size), many))


def plain_rows_of_sets(relation):
    """All rows of sets of a relation, by going through all sets of its rows."""
    arity, rows = relation
    return {tuple(tuple(sorted({row[place] for row in part})) for place in range(arity))
            for many in range(1, len(rows) + 1) for part in itertools.combinations(rows, many)}


def is_set_map(template, image):
    """Whether a dict from sets to values is a set map."""
    return all(tuple(image[part] for part in row) in relation[1]
               for relation in template[1] for row in plain_rows_of_sets(relation))


def plain_set_maps(template):
    sets = sets_of(template[0])
    maps = (dict(zip(sets, values)) for values in itertools.product(range(template[0]), repeat=len(sets)))
    return [image for image in maps if is_set_map(template, image)]


def block(first, second):
    """The relation of all pairs of so many values and so many values."""
    return (2, tuple(itertools.product(range(first), range(second))))


def some_questions(many, seed):
    chance = random.Random(seed)
    for _ in range(many):
        size = chance.randint(1, 4)
        template = some_template(size, chance, chance.choice((2, 4, 8)))
        yield template, some_instance(template, chance.randint(0, 6), chance.randint(0, 8), chance)
        template = (size, (some_relation(size, 2, 16, chance), some_relation(size, 4, 6, chance), some_relation(size, 1, 3, chance)))
        yield template, some_instance(template, chance.randint(1, 6), chance.randint(0, 6), chance)


class ArcDomainsTest(unittest.TestCase):

    def test_against_a_plain_taking_away(self):
        seen = set()
        for template, instance in some_questions(300, 1):
            expected = plain_domains(template, instance)
            seen.add(expected is None)
            with self.subTest(template=template, instance=instance):
                self.assertEqual(arc_domains(template, instance), expected)
        self.assertEqual(seen, {True, False})

    def test_no_value_of_a_solution_is_taken_away(self):
        for template, instance in some_questions(60, 2):
            left = arc_domains(template, instance)
            for values in plain_solutions(template, instance):
                self.assertTrue(all(value in part for value, part in zip(values, left)))

    def test_variables_twice_in_a_scope(self):
        # Rows need not give a variable that occurs twice the same value.
        self.assertEqual(arc_domains(UNLIKE, (1, ((0, (0, 0)),))), ((0, 1),))
        three = (3, ((2, ((0, 1), (1, 2), (2, 1))),))
        self.assertEqual(arc_domains(three, (1, ((0, (0, 0)),))), ((1, 2),))
        self.assertIsNone(arc_domains((3, ((2, ((0, 1), (1, 2))),)), (1, ((0, (0, 0)),))))
        self.assertIsNone(solve(three, (1, ((0, (0, 0)),))))

    def test_no_constraints_and_no_variables(self):
        for size, count in itertools.product(range(1, 5), (1, 3, 16)):
            self.assertEqual(arc_domains((size, ()), (count, ())), (tuple(range(size)),) * count)
        for template in (UNLIKE, (4, ()), (1, ((1, ()),))):
            self.assertEqual(arc_domains(template, (0, ())), ())

    def test_by_hand(self):
        self.assertEqual(arc_domains(HORN, (3, ((1, (0,)), (0, (0, 1))))), ((1,), (1,), (0, 1)))
        ring = (3, ((0, (0, 1)), (0, (1, 2)), (0, (2, 0))))
        self.assertEqual(arc_domains(UNLIKE, ring), ((0, 1),) * 3)
        self.assertIsNone(arc_domains((2, ((1, ()),)), (2, ((0, (1,)),))))
        below = (4, ((2, ((0, 1), (0, 2), (0, 3), (1, 2), (1, 3), (2, 3))),))
        chain = tuple((0, (k, k + 1)) for k in range(3))
        self.assertEqual(arc_domains(below, (4, chain)), ((0,), (1,), (2,), (3,)))
        self.assertEqual(arc_domains(below, (3, chain[:2])), ((0, 1), (1, 2), (2, 3)))
        self.assertIsNone(arc_domains(below, (5, chain + ((0, (3, 4)),))))

    def test_long_chains(self):
        chain = tuple((0, (k, k + 1)) for k in range(15))
        self.assertEqual(arc_domains(HORN, (16, chain + ((1, (0,)),))), ((1,),) * 16)
        self.assertEqual(arc_domains(HORN, (16, chain[::-1] * 13 + ((1, (1,)),))), ((0, 1),) + ((1,),) * 15)


class AcyclicTest(unittest.TestCase):

    def test_against_all_orders(self):
        chance = random.Random(3)
        seen = set()
        for _ in range(400):
            instance = some_instance(PLUS, chance.randint(1, 9), chance.randint(0, 5), chance)
            if chance.random() < 0.8:
                instance = (instance[0], tuple(pair for pair in instance[1] if len(set(pair[1])) == len(pair[1])))
            expected = plain_is_acyclic(instance)
            seen.add((len(instance[1]) > 2, expected))
            with self.subTest(instance=instance):
                self.assertIs(is_acyclic(PLUS, instance), expected)
        self.assertEqual(len(seen), 4)

    def test_small_graphs(self):
        for many in range(5):
            for edges in itertools.combinations(itertools.permutations(range(4), 2), many):
                instance = (4, tuple((0, edge) for edge in edges))
                self.assertIs(is_acyclic(UNLIKE, instance), plain_is_acyclic(instance))

    def test_by_hand(self):
        self.assertIs(is_acyclic(UNLIKE, (0, ())), True)
        self.assertIs(is_acyclic(UNLIKE, (2, ((0, (0, 1)),))), True)
        self.assertIs(is_acyclic(UNLIKE, (2, ((0, (0, 0)),))), False)
        self.assertIs(is_acyclic(UNLIKE, (2, ((0, (0, 1)), (0, (0, 1))))), False)
        self.assertIs(is_acyclic(UNLIKE, (2, ((0, (0, 1)), (0, (1, 0))))), False)
        self.assertIs(is_acyclic(PLUS, (2, ((1, (0,)), (1, (0,)), (1, (1,))))), True)
        self.assertIs(is_acyclic(PLUS, (5, ((0, (0, 1, 2)), (0, (2, 3, 4))))), True)
        self.assertIs(is_acyclic(PLUS, (4, ((0, (0, 1, 2)), (0, (1, 2, 3))))), False)
        # A triangle, though the one constraint that has all three variables would cover it.
        self.assertIs(is_acyclic(UNLIKE, (3, ((0, (0, 1)), (0, (1, 2)), (0, (2, 0))))), False)

    def test_many_constraints(self):
        self.assertIs(is_acyclic(PLUS, (16, tuple((1, (k % 16,)) for k in range(200)))), True)
        self.assertIs(is_acyclic(UNLIKE, (16, tuple((0, (0, k)) for k in range(1, 16)))), True)
        self.assertIs(is_acyclic(UNLIKE, (16, tuple((0, (k, k + 1)) for k in range(15)) + ((0, (15, 0)),))), False)

    def test_arc_consistency_decides_acyclic_instances(self):
        many = {True: 0, False: 0}
        for template, instance in some_questions(600, 4):
            if is_acyclic(template, instance):
                solvable = solve(template, instance) is not None
                many[solvable] += 1
                self.assertIs(arc_domains(template, instance) is not None, solvable)
        self.assertGreater(min(many.values()), 40)


class SetMapTest(unittest.TestCase):

    def test_against_all_maps(self):
        chance = random.Random(5)
        seen = set()
        for size, many in ((1, 5), (2, 80), (3, 25)):
            for _ in range(many):
                template = some_template(size, chance, chance.choice((2, 3, 4)))
                expected = plain_set_maps(template)
                seen.add(bool(expected))
                found = set_map(template)
                with self.subTest(template=template):
                    self.assertIs(found is None, not expected)
                    if found is not None:
                        self.assertIn(dict(found), expected)
                        self.assertIs(shows_set_map(template, found), True)
        self.assertEqual(seen, {True, False})

    def test_form(self):
        chance = random.Random(6)
        for _ in range(80):
            template = some_template(chance.randint(1, 4), chance, 4)
            found = set_map(template)
            if found is not None:
                self.assertIsInstance(found, tuple)
                self.assertEqual([part for part, _ in found], sets_of(template[0]))
                self.assertTrue(is_set_map(template, dict(found)))

    def test_it_exists_exactly_if_the_set_instance_has_a_solution(self):
        chance = random.Random(7)
        seen = set()
        for _ in range(150):
            template = some_template(chance.randint(1, 4), chance, chance.choice((2, 3, 4)))
            kind, instance = told(set_instance, template)
            if kind == "TooMany":
                continue
            solvable = solve(template, instance) is not None
            seen.add(solvable)
            self.assertIs(set_map(template) is not None, solvable)
            self.assertIsNotNone(arc_domains(template, instance))
        self.assertEqual(seen, {True, False})

    def test_it_exists_exactly_if_arc_consistency_decides(self):
        chance = random.Random(8)
        refuted = 0
        for _ in range(60):
            template = some_template(chance.randint(2, 3), chance, 4)
            decides = set_map(template) is not None
            for _ in range(15):
                instance = some_instance(template, chance.randint(1, 4), chance.randint(1, 6), chance)
                if arc_domains(template, instance) is not None and solve(template, instance) is None:
                    refuted += 1
                    self.assertIs(decides, False)
        self.assertGreater(refuted, 5)

    def test_by_hand(self):
        self.assertIsNone(set_map(UNLIKE))
        self.assertEqual([value for _, value in set_map(HORN)], [0, set_map(HORN)[1][1], 1])
        lesser = (((0,), 0), ((0, 1), 0), ((1,), 1))
        self.assertIs(shows_set_map(HORN, lesser), True)
        self.assertIs(shows_set_map(HORN, (((0,), 0), ((0, 1), 1), ((1,), 1))), True)
        self.assertEqual(set_map((1, ((4, ((0, 0, 0, 0),)),))), (((0,), 0),))
        self.assertEqual(len(set_map((4, ()))), 15)
        self.assertEqual(len(set_map((4, ((1, ()),)))), 15)


class ShowsSetMapTest(unittest.TestCase):

    right = (((0,), 0), ((0, 1), 0), ((1,), 1))

    def test_against_all_maps(self):
        chance = random.Random(9)
        for size, many in ((1, 3), (2, 40), (3, 4)):
            for _ in range(many):
                template = some_template(size, chance, 3)
                sets = sets_of(size)
                for values in itertools.product(range(size), repeat=len(sets)):
                    value = tuple(zip(sets, values))
                    self.assertIs(shows_set_map(template, value), is_set_map(template, dict(value)))

    def test_bent_maps(self):
        first, second, third = self.right
        bent = [
            (), self.right[:2], self.right + (third,), (second, first, third), self.right[::-1], list(self.right),
            dict(self.right), (first, second, second), (first, first, third), (list(first), second, third),
            (first, second, ((1,), 0)), (first, second, ((1,), 2)), (first, second, ((1,), -1)), (first, second, ((1,), True)),
            (((0,), False), second, third), (((False,), 0), second, third), (first, second, ((True,), 1)),
            (first, ((0, True), 0), third), (first, ((1, 0), 0), third), (first, ((0, 1, 1), 0), third), (first, ([0, 1], 0), third),
            (first, ((0, 1), None), third), (first, ((0, 1), "0"), third), (first, ((0, 1),), third), (first, ((0, 1), 0, 0), third),
            (first, None, third), (((), 0),) + self.right, (first, second, ((1,), (1,))), (0, 0, 1), None, 0, True, "", DEEP,
        ]
        for value in bent:
            with self.subTest(value=shown(value)):
                self.assertIs(shows_set_map(HORN, value), False)
        self.assertIs(shows_set_map(HORN, self.right), True)
        self.assertIs(shows_set_map(UNLIKE, self.right), False)

    def test_images_are_values(self):
        for size in range(1, 5):
            for image in [-1, size, size + 1, 10 ** 40, True, None, "0", (0,)] + list(range(size)):
                value = tuple((part, image if part == (size - 1,) else 0) for part in sets_of(size))
                self.assertIs(shows_set_map((size, ()), value), type(image) is int and 0 <= image < size)

    def test_values_of_all_kinds(self):
        for template in (HORN, (1, ()), (4, ())):
            for value in ODD + [(value,) for value in ODD] + [(((0,), 0), value, ((1,), 1)) for value in ODD]:
                expected = template[0] == 1 and shown(value) == "(((0,), 0),)"
                with self.subTest(value=shown(value)):
                    self.assertIs(shows_set_map(template, value), expected)


class SetInstanceTest(unittest.TestCase):

    def test_set_by_set(self):
        chance = random.Random(10)
        for _ in range(120):
            template = some_template(chance.randint(1, 4), chance, chance.choice((2, 4, 5)))
            sets = sets_of(template[0])
            expected = sorted((index, tuple(sets.index(part) for part in row))
                              for index, relation in enumerate(template[1]) for row in plain_rows_of_sets(relation))
            said = told(set_instance, template)
            if len(expected) > 200:
                self.assertEqual(said, ("TooMany", {"most": 200}))
            else:
                self.assertEqual(said, ("answer", (len(sets), tuple(expected))))

    def test_by_hand(self):
        self.assertEqual(set_instance(UNLIKE), (3, ((0, (0, 2)), (0, (1, 1)), (0, (2, 0)))))
        self.assertEqual(set_instance(HORN), (3, ((0, (0, 0)), (0, (0, 1)), (0, (0, 2)), (0, (1, 1)), (0, (1, 2)), (0, (2, 2)), (1, (2,)))))
        self.assertEqual(set_instance((3, ((1, ((2,),)),))), (7, ((0, (6,)),)))
        self.assertEqual(set_instance((4, ())), (15, ()))
        self.assertEqual(set_instance((1, ((1, ()),))), (1, ()))


class BoundsTest(unittest.TestCase):

    def test_1024(self):
        rows = rows_of(2, 4)
        ten, eleven = (2, ((4, tuple(rows[:10])),)), (2, ((1, ()), (4, tuple(rows[:11]))))
        right = (((0,), 0), ((0, 1), 0), ((1,), 1))
        for function in (set_map, set_instance):
            self.assertEqual(told(function, ten)[0], "answer")
            self.assertEqual(told(function, eleven), ("TooMany", {"most": 1024}))
            self.assertEqual(told(function, (4, ((4, tuple(rows_of(4, 4))),))), ("TooMany", {"most": 1024}))
        for value in (right, None, ((),)):
            self.assertEqual(told(shows_set_map, eleven, value), ("TooMany", {"most": 1024}))
        self.assertIs(shows_set_map(ten, right), is_set_map(ten, dict(right)))

    def test_ten_rows_of_four_values(self):
        chance = random.Random(11)
        for _ in range(5):
            template = (4, tuple((4, tuple(sorted(chance.sample(rows_of(4, 4), 10)))) for _ in range(6)))
            found = set_map(template)
            self.assertTrue(found is None or is_set_map(template, dict(found)))

    def test_200(self):
        # All pairs of values from two sets: their rows of sets are all pairs of parts of these.
        nines, eight, four = block(3, 3), block(4, 2), block(2, 2)
        self.assertEqual([len(plain_rows_of_sets(relation)) for relation in (nines, eight, four)], [49, 45, 9])
        just = (4, (nines,) * 4 + ((1, ((0,), (3,))), (1, ((2,),))))
        self.assertEqual(len(set_instance(just)[1]), 200)
        more = (4, (nines,) * 3 + (eight, four))
        self.assertEqual(told(set_instance, more), ("TooMany", {"most": 200}))
        self.assertTrue(is_set_map(more, dict(set_map(more))))
        self.assertIs(shows_set_map(more, set_map(more)), True)

    def test_1024_comes_ahead_of_200(self):
        many = (4, (block(3, 3),) * 5)
        self.assertEqual(told(set_instance, many), ("TooMany", {"most": 200}))
        self.assertEqual(told(set_instance, (4, many[1] + (block(4, 3),))), ("TooMany", {"most": 1024}))


class WrongValuesTest(unittest.TestCase):

    def test_instances(self):
        for function in (arc_domains, is_acyclic):
            check_bad(self, function, [ORDER, None], 1, [None, (17, ()), [1, ()], (True, ()), (1, None)], BadInstance, {"index": None})
            bad = [(2, ((0, (0, 1)), value)) for value in (None, (0, (0,)), (1, (0, 1)), (0, (0, 2)), (0, (0, True)), (0, [0, 1]))]
            check_bad(self, function, [ORDER, None], 1, bad, BadInstance, {"index": 1})

    def test_leftmost_error(self):
        template, instance = ((2, (1,)), BadTemplate, {"index": 0}), ((1, ((0, (1, 1)),)), BadInstance, {"index": 0})
        for function in (arc_domains, is_acyclic):
            check_leftmost(self, function, [ORDER, (1, ())], [template, instance])
        great = (2, ((4, tuple(rows_of(2, 4))), (1, ((1,), (0,)))))
        for function, others in ((set_map, []), (set_instance, []), (shows_set_map, [None])):
            check_bad(self, function, [None] + others, 0, [great], BadTemplate, {"index": 1})

    def test_any_value(self):
        check_any_value(self, arc_domains, [HORN, (3, ((1, (0,)), (0, (0, 1))))])
        check_any_value(self, is_acyclic, [HORN, (3, ((1, (0,)), (0, (0, 1))))])
        check_any_value(self, set_map, [HORN])
        check_any_value(self, set_instance, [HORN])
        check_any_value(self, shows_set_map, [HORN, (((0,), 0), ((0, 1), 0), ((1,), 1))])


if __name__ == "__main__":
    unittest.main()
