"""Maps between templates, products and cores (points 25 and 26)."""

import itertools
import random
import unittest

from templates.errors import BadShape, BadTemplate
from templates.maps import any_map, as_instance, both_ways, core, is_core, isomorphism, maps, shows_core, times
from templates.solving import solutions
from templates.structures import renamed
from tests.tools import (
    DEEP, ODD, bad_relations, check_any_value, check_bad, check_leftmost, rows_of, shown, some_relation, told)

UNLIKE = (2, ((2, ((0, 1), (1, 0))),))
ORDER = (2, ((2, ((0, 0), (0, 1), (1, 1))),))
RING = (3, ((2, ((0, 1), (0, 2), (1, 0), (1, 2), (2, 0), (2, 1))),))
PATH = (3, ((2, ((0, 1), (1, 0), (1, 2), (2, 1))),))
OF_TWO = (maps, any_map, both_ways, isomorphism, times)
BAD_TEMPLATES = [None, 0, True, "", (), (2,), (0, ()), (5, ()), (True, ()), ("2", ()), (2, None), (2, []), [2, ()], {}, (2, (), ()),
                 (2, ((1, ()),) * 7)]


def is_plain_map(one, other, images):
    return all(tuple(images[value] for value in row) in rows
               for (_, told_rows), (_, rows) in zip(one[1], other[1]) for row in told_rows)


def plain_maps(one, other):
    """The ascending list of all maps, by going through all tuples of images."""
    return [images for images in rows_of(other[0], one[0]) if is_plain_map(one, other, images)]


def some_pair(chance):
    """Two templates of the same shape."""
    arities = [chance.randint(1, 4) for _ in range(chance.choice((0, 1, 1, 2, 3, 6)))]
    most = [chance.choice((2, 5, 12)) for _ in range(2)]
    sizes = [chance.randint(1, 4) for _ in range(2)]
    return [(size, tuple(some_relation(size, arity, many, chance) for arity in arities)) for size, many in zip(sizes, most)]


def some_isomorphic(chance):
    one, _ = some_pair(chance)
    names = list(range(one[0]))
    chance.shuffle(names)
    return one, renamed(one, tuple(names))


def some_pairs(many, seed):
    chance = random.Random(seed)
    for at in range(many):
        yield some_isomorphic(chance) if at % 4 == 0 else some_pair(chance)


def rows_in_all(template):
    return [len(rows) for _, rows in template[1]]


class MapsTest(unittest.TestCase):

    def test_against_all_tuples_of_images(self):
        seen, sizes = set(), set()
        for one, other in some_pairs(400, 1):
            right = plain_maps(one, other)
            found = maps(one, other)
            self.assertEqual(found, right, (one, other))
            self.assertIsInstance(found, list)
            sizes.add((one[0], other[0]))
            seen.add(bool(right))
            image = any_map(one, other)
            self.assertTrue(image in right if right else image is None)
        self.assertEqual((seen, len(sizes)), ({True, False}, 16))

    def test_both_ways(self):
        seen = set()
        for one, other in some_pairs(400, 2):
            there, back = plain_maps(one, other), plain_maps(other, one)
            found = both_ways(one, other)
            seen.add((bool(there), bool(back)))
            if there and back:
                self.assertIsInstance(found, tuple)
                self.assertEqual((len(found), found[0] in there, found[1] in back), (2, True, True))
            else:
                self.assertIsNone(found)
        self.assertEqual(len(seen), 4)

    def test_isomorphism(self):
        seen = set()
        for one, other in some_pairs(400, 3):
            self.check_isomorphism(one, other, seen)
        self.assertEqual(seen, {True, False})

    def check_isomorphism(self, one, other, seen):
        right = []
        if one[0] == other[0] and rows_in_all(one) == rows_in_all(other):
            right = [images for images in plain_maps(one, other) if len(set(images)) == one[0]]
        found = isomorphism(one, other)
        seen.add(bool(right))
        if right:
            self.assertIn(found, right)
            self.assertEqual(renamed(one, found), other)
        else:
            self.assertIsNone(found, (one, other))

    def test_one_row_or_one_value_more_is_no_isomorphism(self):
        more = (2, ((2, ((0, 0), (0, 1), (1, 0), (1, 1))),))
        self.assertIsNone(isomorphism(UNLIKE, more))
        self.assertIsNone(isomorphism(more, UNLIKE))
        self.assertIsNone(isomorphism((2, ()), (3, ())))
        self.assertIsNone(isomorphism((3, ()), (2, ())))
        self.assertIsNone(isomorphism((2, ((1, ((0,),)), (1, ()))), (2, ((1, ()), (1, ((0,),))))))
        self.assertEqual(isomorphism((1, ()), (1, ())), (0,))
        self.assertEqual(isomorphism((2, ((1, ((0,),)),)), (2, ((1, ((1,),)),))), (1, 0))

    def test_no_relations_and_no_rows(self):
        for size, other in itertools.product(range(1, 5), repeat=2):
            everything = rows_of(other, size)
            self.assertEqual(maps((size, ()), (other, ())), everything)
            self.assertEqual(maps((size, ((3, ()),)), (other, ((3, ()),))), everything)
            self.assertEqual(maps((size, ((1, ((0,),)),)), (other, ((1, ()),))), [])
            self.assertIsNotNone(both_ways((size, ()), (other, ())))
            self.assertIs(isomorphism((size, ()), (other, ())) is not None, size == other)

    def test_by_hand(self):
        self.assertEqual(maps(UNLIKE, UNLIKE), [(0, 1), (1, 0)])
        self.assertEqual(maps(RING, UNLIKE), [])
        self.assertEqual(maps(PATH, UNLIKE), [(0, 1, 0), (1, 0, 1)])
        self.assertIsNone(both_ways(UNLIKE, RING))
        self.assertIsNotNone(both_ways(UNLIKE, PATH))
        # A row with a value twice.
        self.assertEqual(maps((1, ((2, ((0, 0),)),)), UNLIKE), [])

    def test_returned_lists_are_new(self):
        found = maps(UNLIKE, RING)
        right = list(found)
        found.clear()
        self.assertEqual(maps(UNLIKE, RING), right)


class TimesTest(unittest.TestCase):

    def test_row_by_row(self):
        many = 0
        for one, other in some_pairs(300, 4):
            size = one[0] * other[0]
            if size > 4:
                self.assertEqual(told(times, one, other), ("TooMany", {"most": 4}))
                continue
            many += 1
            made = times(one, other)
            self.assertEqual((made[0], len(made[1])), (size, len(one[1])))
            for (arity, rows), (first_arity, firsts), (_, seconds) in zip(made[1], one[1], other[1]):
                self.assertEqual(arity, first_arity)
                right = [row for row in rows_of(size, arity) if tuple(value // other[0] for value in row) in firsts
                         and tuple(value % other[0] for value in row) in seconds]
                self.assertEqual(rows, tuple(right))
            # Its maps to both sides, and what is mapped to it, are pairs.
            self.assertIn(tuple(value // other[0] for value in range(size)), plain_maps(made, one))
            self.assertIn(tuple(value % other[0] for value in range(size)), plain_maps(made, other))
        self.assertGreater(many, 60)

    def test_4_pairs(self):
        for size, other in itertools.product(range(1, 5), repeat=2):
            kind, answer = told(times, (size, ((1, ((0,),)),)), (other, ((1, ((other - 1,),)),)))
            if size * other > 4:
                self.assertEqual((kind, answer), ("TooMany", {"most": 4}))
            else:
                self.assertEqual((kind, answer), ("answer", (size * other, ((1, ((other - 1,),)),))))

    def test_by_hand(self):
        self.assertEqual(times(UNLIKE, UNLIKE), (4, ((2, ((0, 3), (1, 2), (2, 1), (3, 0))),)))
        self.assertEqual(times((1, ()), (4, ())), (4, ()))


class AsInstanceTest(unittest.TestCase):

    def test_rows_relation_by_relation(self):
        for one, _ in some_pairs(100, 5):
            right = tuple((index, row) for index, (_, rows) in enumerate(one[1]) for row in rows)
            self.assertEqual(as_instance(one), (one[0], right))
        self.assertEqual(as_instance((3, ())), (3, ()))

    def test_its_solutions_are_the_maps(self):
        for one, other in some_pairs(150, 6):
            if sum(rows_in_all(one)) <= 200:
                self.assertEqual(solutions(other, as_instance(one)), plain_maps(one, other))

    def test_200_rows(self):
        rows = rows_of(4, 4)
        for parts, most in [((200,), None), ((201,), 200), ((256,), 200), ((100, 60, 40), None), ((100, 60, 41), 200), ((256,) * 6, 200),
                            ((50, 50, 50, 50, 0, 0), None), ((50, 50, 50, 50, 0, 1), 200)]:
            kind, answer = told(as_instance, (4, tuple((4, tuple(rows[:part])) for part in parts)))
            if most is None:
                self.assertEqual((kind, len(answer[1])), ("answer", 200))
            else:
                self.assertEqual((kind, answer), ("TooMany", {"most": 200}))
        # The maps themselves have no such bound.
        great = (4, ((4, tuple(rows)),) * 6)
        self.assertEqual(len(maps(great, great)), 256)


class WrongTemplatesTest(unittest.TestCase):

    def test_templates(self):
        for function in OF_TWO:
            for place in (0, 1):
                check_bad(self, function, [UNLIKE, UNLIKE], place, BAD_TEMPLATES, BadTemplate, {"index": None})
                for bad in bad_relations(2):
                    arguments = [UNLIKE, UNLIKE]
                    arguments[place] = (2, ((1, ()), bad, None))
                    self.assertEqual(told(function, *arguments), ("BadTemplate", {"index": 1}), shown(bad))
        for function in (as_instance, core, is_core):
            check_bad(self, function, [None], 0, BAD_TEMPLATES, BadTemplate, {"index": None})
        check_bad(self, shows_core, [None, None], 0, BAD_TEMPLATES, BadTemplate, {"index": None})
        self.assertEqual(told(shows_core, (2, ((1, ()), None)), DEEP), ("BadTemplate", {"index": 1}))

    def test_shapes(self):
        shapes = [(), (1,), (2,), (1, 2), (2, 1), (1, 1), (2, 2, 2), (1,) * 6]
        for function in OF_TWO:
            for one, other in itertools.product(shapes, repeat=2):
                said = told(function, (2, tuple((arity, ()) for arity in one)), (1, tuple((arity, ()) for arity in other)))
                self.assertEqual(said[0], "answer" if one == other else BadShape.__name__)

    def test_both_templates_ahead_of_the_shape(self):
        for function in OF_TWO:
            wrong = [((2, ((1, ()), None)), BadTemplate, {"index": 1}), ((7, ()), BadTemplate, {"index": None})]
            check_leftmost(self, function, [UNLIKE, UNLIKE], wrong)
            self.assertEqual(told(function, (2, ()), (2, (None,))), ("BadTemplate", {"index": 0}))

    def test_the_shape_ahead_of_the_bound(self):
        self.assertEqual(told(times, (4, ()), (4, ((1, ()),))), ("BadShape", {}))
        self.assertEqual(told(times, (4, ()), (4, ())), ("TooMany", {"most": 4}))

    def test_any_value(self):
        for function in OF_TWO:
            check_any_value(self, function, [UNLIKE, ORDER])
        for function in (as_instance, core, is_core):
            check_any_value(self, function, [ORDER])
        check_any_value(self, shows_core, [ORDER, ((0,), (0, 0))])


def plain_cores(template):
    """All cores of a template, by going through all of its maps to itself."""
    own = plain_maps(template, template)
    least = min(len(set(images)) for images in own)
    return [(tuple(sorted(set(images))), images) for images in own
            if len(set(images)) == least and all(images[value] == value for value in images)]


class CoreTest(unittest.TestCase):

    def test_against_all_maps(self):
        seen = set()
        for one, _ in some_pairs(400, 7):
            right = plain_cores(one)
            self.assertIn(core(one), right)
            full = len(right[0][0]) == one[0]
            self.assertIs(is_core(one), full)
            seen.add((one[0], len(right[0][0])))
        self.assertGreater(len(seen), 8)

    def test_shows_core_against_all_pairs(self):
        chance = random.Random(8)
        for one, _ in some_pairs(60, 9):
            size = one[0]
            right = plain_cores(one)
            self.assertTrue(all(shows_core(one, value) is True for value in right))
            parts = [part for many in range(size + 1) for part in itertools.combinations(range(size), many)]
            for images in chance.sample(rows_of(size, size), min(40, size ** size)):
                for part in parts:
                    self.assertIs(shows_core(one, (part, images)), (part, images) in right)

    def test_templates_whose_graphs_are_known(self):
        for template, many in [(RING, 3), (PATH, 2), (UNLIKE, 2), (ORDER, 1), ((4, ()), 1), ((4, ((2, ()),)), 1),
                               ((3, ((1, ((0,),)), (1, ((1,),)), (1, ((2,),)))), 3), ((3, ((1, ((0,),)), (1, ((2,),)))), 2)]:
            values, images = core(template)
            self.assertEqual(len(values), many)
            self.assertIs(is_core(template), many == template[0])
            self.assertIs(shows_core(template, (values, images)), True)

    def test_a_map_with_few_values_that_moves_them(self):
        ring = (4, ((2, ((0, 1), (0, 3), (1, 0), (1, 2), (2, 1), (2, 3), (3, 0), (3, 2))),))
        self.assertEqual(len(core(ring)[0]), 2)
        moving = (1, 0, 1, 0)
        self.assertIn(moving, plain_maps(ring, ring))
        self.assertIs(shows_core(ring, ((0, 1), moving)), False)
        self.assertIs(shows_core(ring, ((0, 1), (0, 1, 0, 1))), True)

    def test_a_map_that_fixes_only_some_of_its_values(self):
        # A ring of three, and a value beside one of them: the map fixes 0 and exchanges 1 and 2.
        kite = (4, ((2, ((0, 1), (0, 2), (1, 0), (1, 2), (1, 3), (2, 0), (2, 1), (2, 3), (3, 1), (3, 2))),))
        moving = (0, 2, 1, 0)
        self.assertIn(moving, plain_maps(kite, kite))
        self.assertIs(shows_core(kite, ((0, 1, 2), moving)), False)
        self.assertIs(shows_core(kite, ((0, 1, 2), (0, 1, 2, 0))), True)
        self.assertIn(core(kite), plain_cores(kite))

    def test_bent_pairs(self):
        right = ((0, 1), (0, 1, 0))
        self.assertIs(shows_core(PATH, right), True)
        self.assertIs(shows_core(PATH, ((1, 2), (2, 1, 2))), True)
        bent = [((1, 0), (0, 1, 0)), ((0, 1), (1, 0, 1)), ((0, 1, 2), (0, 1, 2)), ((0, 1), (0, 1, 2)), ((0, 1), (0, 1, 1)), ((0,), (0, 0, 0)),
                ((0, 1, 1), (0, 1, 0)), ((0, 2), (0, 1, 0)), ((), ()), ((0, 1), ()), ((0, 1), (0, 1)), ((0, 1), (0, 1, 0, 1)),
                ([0, 1], (0, 1, 0)), ((0, 1), [0, 1, 0]), [(0, 1), (0, 1, 0)], ((0, 1), (0, 1, 0), ()), ((0, 1),), ((0, True), (0, 1, 0)),
                ((False, 1), (0, 1, 0)), ((0, 1), (0, True, 0)), ((0, 1), (False, 1, False)), ((0, 1), (0, 1, 3)), ((0, 1), (0, 1, -1)),
                ((0, 1), (0, 1, None)), ((0, "1"), (0, 1, 0)), ((0, 1), "010"), ((0, 1, 2, 3), (0, 1, 0)), {0: 1}, None, True, 0, "", DEEP,
                ((0, 10 ** 40), (0, 1, 0)), ((0, 1.0), (0, 1, 0)), (((0,), 1), (0, 1, 0)), (DEEP, (0, 1, 0)), ((0, 1), DEEP)]
        for value in bent:
            with self.subTest(value=shown(value)):
                self.assertIs(shows_core(PATH, value), False)

    def test_values_of_all_kinds(self):
        for value in ODD:
            with self.subTest(value=shown(value)):
                self.assertIs(shows_core(ORDER, value), False)
                self.assertIs(shows_core(ORDER, (value, (0, 0))), value == (0,))
                self.assertIs(shows_core(ORDER, ((0,), value)), value == (0, 0))


if __name__ == "__main__":
    unittest.main()
