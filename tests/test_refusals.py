"""Refusals by pairs (point 17) and by arcs (point 20)."""

import random
import unittest

from templates.arcs import arc_domains
from templates.errors import BadInstance, BadTemplate
from templates.pairs import pairs_of
from templates.refusals import arc_refusal, pair_refusal, shows_arc_refusal, shows_pair_refusal
from tests.tools import (
    DEEP, ODD, check_any_value, check_bad, check_leftmost, rows_of, shown, some_instance, some_relation, some_template)

UNLIKE = (2, ((2, ((0, 1), (1, 0))),))
ORDER = (2, ((2, ((0, 0), (0, 1), (1, 1))),))
ONLY = (2, ((1, ((0,),)), (1, ((1,),))))
BOTH = (1, ((0, (0,)), (1, (0,))))
RING = (3, ((0, (0, 1)), (0, (1, 2)), (0, (2, 0))))
BELOW = (3, ((2, ((0, 1), (0, 2), (1, 2))),))
FALL = (2, ((0, (0, 1)), (0, (1, 0))))
WRONG = [None, True, False, -1, 10 ** 40, "0", (), (0,), [0], {}, DEEP]


def plain_shows_pairs(template, instance, steps):
    """Whether steps of the right form take pairs away as the document says."""
    size, relations = template
    count, constraints = instance
    pairs = {(u, v): {(a, b) for a, b in rows_of(size, 2) if u != v or a == b}
             for u in range(count) for v in range(count)}

    def supports(scope, row, given):
        if any((given.get(k, value), value) != (value, value) for k, value in zip(scope, row)):
            return False
        return all((a, b) in pairs[u, v] for u, a in zip(scope, row) for v, b in zip(scope, row))

    for u, v, a, b, word, reason in steps:
        if (a, b) not in pairs[u, v]:
            return False
        if word == "row":
            index, scope = constraints[reason]
            if u not in scope or v not in scope or any(supports(scope, row, {u: a, v: b}) for row in relations[index][1]):
                return False
        elif any((a, c) in pairs[u, reason] and (b, c) in pairs[v, reason] for c in range(size)):
            return False
        pairs[u, v].discard((a, b))
        pairs[v, u].discard((b, a))
    return set() in pairs.values()


def plain_shows_arcs(template, instance, steps):
    size, relations = template
    count, constraints = instance
    left = [set(range(size)) for _ in range(count)]
    for variable, value, number, place in steps:
        index, scope = constraints[number]
        if value not in left[variable] or scope[place] != variable:
            return False
        for row in relations[index][1]:
            if row[place] == value and all(entry in left[k] for k, entry in zip(scope, row)):
                return False
        left[variable].discard(value)
    return set() in left


def some_questions(many, seed):
    chance = random.Random(seed)
    for _ in range(many):
        size = chance.randint(1, 4)
        template = some_template(size, chance, chance.choice((2, 4, 8)))
        yield template, some_instance(template, chance.randint(0, 5), chance.randint(0, 8), chance)
        size = chance.randint(2, 4)
        template = (size, (some_relation(size, 2, size * size - 1, chance), some_relation(size, 3, 2 * size, chance)))
        yield template, some_instance(template, chance.randint(2, 5), chance.randint(2, 9), chance)
        template = (4, tuple((2, tuple(sorted(chance.sample(rows_of(4, 2), chance.randint(6, 10))))) for _ in range(4)))
        pairs = [chance.sample(range(4), 2) for _ in range(chance.randint(3, 7))]
        yield template, (4, tuple((chance.randrange(4), tuple(pair)) for pair in pairs))


def bendings(steps, instance, size, chance):
    """Tuples of steps that are no longer as they were."""
    at = chance.randrange(len(steps))
    step = list(steps[at])
    place = chance.choice([k for k, part in enumerate(step) if isinstance(part, int)])
    if len(step) == 4:
        most = [instance[0], size, len(instance[1]), len(instance[1][step[2]][1])][place]
    else:
        last = len(instance[1]) if step[4] == "row" else instance[0]
        most = [instance[0], instance[0], size, size, None, last][place]
    step[place] = chance.randrange(most)
    if len(step) == 4:
        step[3] = min(step[3], len(instance[1][step[2]][1]) - 1)
    other = chance.randrange(len(steps))
    moved = list(steps[:at] + steps[at + 1:])
    moved.insert(other, steps[at])
    yield steps[:at] + (tuple(step),) + steps[at + 1:]
    yield steps[:at] + steps[at + 1:]
    yield tuple(moved)
    yield steps[:at]
    yield steps[:at + 1] + steps[at:]
    yield steps + (tuple(step),)
    yield steps + (steps[at],)


class PairRefusalTest(unittest.TestCase):

    def test_none_just_where_there_are_pairs(self):
        seen, kinds = set(), set()
        for template, instance in some_questions(250, 1):
            steps = pair_refusal(template, instance)
            seen.add(steps is None)
            with self.subTest(template=template, instance=instance):
                self.assertIs(steps is None, pairs_of(template, instance) is not None)
                if steps is not None:
                    self.assertIsInstance(steps, tuple)
                    self.assertTrue(plain_shows_pairs(template, instance, steps))
                    self.assertIs(shows_pair_refusal(template, instance, steps), True)
                    kinds |= {(step[4], step[0] == step[1]) for step in steps}
        self.assertEqual(seen, {True, False})
        self.assertEqual(kinds, {("row", True), ("row", False), ("third", True), ("third", False)})

    def test_rows_do_not_need_the_pairs_of_a_variable_with_itself(self):
        # The steps are right also where only two different variables of a scope must have a pair for a row.
        for template, instance in some_questions(120, 2):
            for step in pair_refusal(template, instance) or ():
                self.assertEqual(len(step), 6)
            self.check_with_fewer_reasons(template, instance, pair_refusal(template, instance))

    def check_with_fewer_reasons(self, template, instance, steps):
        gone = set()
        for u, v, a, b, word, reason in steps or ():
            if word == "row":
                index, scope = instance[1][reason]
                for row in template[1][index][1]:
                    given = {k: value for k, value in zip(scope, row)}
                    if all(given[k] == value for k, value in zip(scope, row)) and (given[u], given[v]) == (a, b):
                        self.assertTrue(any((k, j, given[k], given[j]) in gone for k in given for j in given if k != j))
            gone |= {(u, v, a, b), (v, u, b, a)}

    def test_by_hand(self):
        self.assertIsNone(pair_refusal(UNLIKE, (2, ((0, (0, 1)),))))
        self.assertIsNone(pair_refusal(UNLIKE, (0, ())))
        self.assertIs(shows_pair_refusal(UNLIKE, RING, pair_refusal(UNLIKE, RING)), True)
        self.assertIs(shows_pair_refusal(ONLY, BOTH, ((0, 0, 1, 1, "row", 0), (0, 0, 0, 0, "row", 1))), True)
        self.assertIs(shows_pair_refusal(ONLY, BOTH, ((0, 0, 0, 0, "row", 1), (0, 0, 1, 1, "row", 0))), True)


class ShowsPairRefusalTest(unittest.TestCase):

    right = ((0, 1, 0, 0, "row", 0), (0, 1, 1, 1, "row", 0), (1, 2, 0, 0, "row", 1), (1, 2, 1, 1, "row", 1),
             (0, 2, 0, 0, "row", 2), (2, 0, 1, 1, "row", 2), (0, 2, 0, 1, "third", 1), (2, 0, 0, 1, "third", 1))

    def test_right_steps(self):
        self.assertIs(shows_pair_refusal(UNLIKE, RING, self.right), True)
        # Two variables in the other order, with their values.
        turned = tuple((v, u, b, a, word, reason) for u, v, a, b, word, reason in self.right)
        self.assertIs(shows_pair_refusal(UNLIKE, RING, turned), True)
        # Further steps that are right do not spoil it.
        for last in ((0, 0, 0, 0, "third", 2), (2, 2, 1, 1, "row", 2), (0, 1, 0, 1, "third", 2)):
            self.assertIs(shows_pair_refusal(UNLIKE, RING, self.right + (last,)), True)

    def test_each_two_variables_keep_a_pair(self):
        for many in range(len(self.right)):
            self.assertIs(shows_pair_refusal(UNLIKE, RING, self.right[:many]), False)
        self.assertIs(shows_pair_refusal(ONLY, BOTH, ((0, 0, 1, 1, "row", 0),)), False)
        self.assertIs(shows_pair_refusal(UNLIKE, (0, ()), ()), False)

    def test_pairs_that_are_gone(self):
        for step in self.right:
            self.assertIs(shows_pair_refusal(UNLIKE, RING, self.right + (step,)), False)
            self.assertIs(shows_pair_refusal(UNLIKE, RING, self.right[:3] + (step,) + self.right[3:]), False)
            turned = (step[1], step[0], step[3], step[2]) + step[4:]
            self.assertIs(shows_pair_refusal(UNLIKE, RING, self.right + (turned,)), False)
        # A variable with itself has no pair of different values.
        self.assertIs(shows_pair_refusal(ONLY, BOTH, ((0, 0, 0, 1, "row", 0),)), False)
        self.assertIs(shows_pair_refusal(ONLY, BOTH, ((0, 0, 0, 1, "third", 0),)), False)

    def test_steps_behind_the_end(self):
        behind = [None, (), (0, 1, 0, 1), (0, 1, 0, 1, "row", 0), (0, 0, 0, 0, "row", 1), (0, 0, 0, 0, "third", 3),
                  (0, 1, 0, 1, "row", 3), (0, 3, 0, 1, "row", 0), [0, 0, 0, 0, "third", 2], (1, 1, 0, 0, "third", 0)]
        for step in behind:
            with self.subTest(step=step):
                self.assertIs(shows_pair_refusal(UNLIKE, RING, self.right + (step,)), False)

    def test_wrong_reasons(self):
        loose = (2, ((2, ((0, 0), (0, 1), (1, 0))), (1, ((0,), (1,)))))
        instance = (3, ((0, (0, 1)), (1, (2,)), (0, (1, 2))))
        self.assertIs(shows_pair_refusal(loose, instance, ((0, 1, 1, 1, "row", 0),)), False)
        wrong = [(0, 1, 0, 0, "row", 0), (0, 1, 1, 0, "row", 0), (0, 2, 1, 1, "row", 0), (0, 1, 1, 1, "row", 1),
                 (0, 1, 1, 1, "row", 2), (0, 0, 1, 1, "row", 0), (0, 2, 1, 1, "third", 1), (0, 1, 1, 1, "third", 2),
                 (0, 1, 1, 1, "third", 0), (2, 2, 1, 1, "row", 1), (2, 2, 1, 1, "third", 2)]
        template, instance = (2, loose[1] + ONLY[1]), (3, instance[1] + ((2, (0,)), (3, (0,))))
        last = ((0, 0, 0, 0, "row", 4), (0, 0, 1, 1, "row", 3))
        self.assertIs(shows_pair_refusal(template, instance, last), True)
        self.assertIs(shows_pair_refusal(template, instance, ((0, 1, 1, 1, "row", 0),) + last), True)
        for step in wrong:
            with self.subTest(step=step):
                self.assertIs(shows_pair_refusal(template, instance, (step,) + last), False)

    def test_what_is_no_step(self):
        for place in range(6):
            for value in WRONG + ["row", "third", "Row", 3]:
                for at in (0, 6):
                    step = self.right[at][:place] + (value,) + self.right[at][place + 1:]
                    steps = self.right[:at] + (step,) + self.right[at + 1:]
                    if step != self.right[at]:
                        with self.subTest(place=place, value=shown(value), at=at):
                            self.assertIs(shows_pair_refusal(UNLIKE, RING, steps), False)
        for step in [(0, 1, 2, 0, "row", 0), (0, 1, 0, 2, "row", 0), (2, 2, 2, 2, "third", 0), (3, 0, 0, 0, "third", 0),
                     (0, 3, 0, 0, "row", 0), (0, 1, 0, 0, "third", 3), (0, 1, 0, 0, "row", 3)]:
            self.assertIs(shows_pair_refusal(UNLIKE, RING, (step,) + self.right), False)
        for value in WRONG + [self.right[0][:5], self.right[0] + (0,), list(self.right[0])]:
            self.assertIs(shows_pair_refusal(UNLIKE, RING, (value,) + self.right[1:]), False)

    def test_true_is_no_integer(self):
        steps = ((0, 0, 1, 1, "row", 0), (0, 0, 0, 0, "row", 1))
        for place in (0, 1, 2, 3, 5):
            for at in (0, 1):
                value = bool(steps[at][place])
                bent = steps[at][:place] + (value,) + steps[at][place + 1:]
                self.assertIs(shows_pair_refusal(ONLY, BOTH, steps[:at] + (bent,) + steps[at + 1:]), False)

    def test_against_the_definition(self):
        chance = random.Random(3)
        seen = set()
        for template, instance in some_questions(120, 4):
            steps = pair_refusal(template, instance)
            if steps is None:
                continue
            for _ in range(4):
                for bent in bendings(steps, instance, template[0], chance):
                    expected = plain_shows_pairs(template, instance, bent)
                    seen.add(expected)
                    with self.subTest(template=template, instance=instance, steps=bent):
                        self.assertIs(shows_pair_refusal(template, instance, bent), expected)
        self.assertEqual(seen, {True, False})

    def test_values_of_all_kinds(self):
        for template, instance in [(UNLIKE, RING), (ONLY, BOTH), (UNLIKE, (0, ())), (UNLIKE, (1, ()))]:
            for value in ODD + [DEEP]:
                self.assertIs(shows_pair_refusal(template, instance, value), False)
                self.assertIs(shows_pair_refusal(template, instance, (value,)), False)
        self.assertIs(shows_pair_refusal(UNLIKE, RING, list(self.right)), False)


class ArcRefusalTest(unittest.TestCase):

    def test_none_just_where_there_are_domains(self):
        seen, places = set(), set()
        for template, instance in some_questions(250, 5):
            steps = arc_refusal(template, instance)
            seen.add(steps is None)
            with self.subTest(template=template, instance=instance):
                self.assertIs(steps is None, arc_domains(template, instance) is not None)
                if steps is not None:
                    self.assertIsInstance(steps, tuple)
                    self.assertTrue(plain_shows_arcs(template, instance, steps))
                    self.assertIs(shows_arc_refusal(template, instance, steps), True)
                    places |= {step[3] for step in steps}
        self.assertEqual((seen, places), ({True, False}, {0, 1, 2}))

    def test_by_hand(self):
        self.assertIsNone(arc_refusal(ONLY, (1, ((0, (0,)),))))
        self.assertIsNone(arc_refusal(UNLIKE, RING))
        self.assertIsNone(arc_refusal(UNLIKE, (1, ((0, (0, 0)),))))
        self.assertIsNone(arc_refusal(UNLIKE, (0, ())))
        self.assertIs(shows_arc_refusal(ONLY, BOTH, ((0, 1, 0, 0), (0, 0, 1, 0))), True)
        twice = ((2, ((0, 1), (1, 2))),)
        self.assertIs(shows_arc_refusal((3, twice), (1, ((0, (0, 0)),)), ((0, 2, 0, 0), (0, 1, 0, 0), (0, 0, 0, 0))), True)
        self.assertIs(shows_arc_refusal((3, twice), (1, ((0, (0, 0)),)), ((0, 0, 0, 1), (0, 1, 0, 1), (0, 2, 0, 1))), True)
        self.assertIs(shows_arc_refusal((3, twice), (1, ((0, (0, 0)),)), ((0, 1, 0, 0), (0, 2, 0, 0), (0, 0, 0, 0))), False)


class ShowsArcRefusalTest(unittest.TestCase):

    # The least value of one and the greatest of the other variable, then what is left of one of them.
    right = ((0, 2, 0, 0), (1, 0, 0, 1), (0, 0, 1, 1), (0, 1, 1, 1))

    def test_right_steps(self):
        self.assertIs(shows_arc_refusal(BELOW, FALL, self.right), True)
        for last in ((1, 1, 0, 1), (1, 2, 1, 0)):
            self.assertIs(shows_arc_refusal(BELOW, FALL, self.right + (last,)), True)

    def test_each_variable_keeps_a_value(self):
        for many in range(len(self.right)):
            self.assertIs(shows_arc_refusal(BELOW, FALL, self.right[:many]), False)
        self.assertIs(shows_arc_refusal(UNLIKE, (0, ()), ()), False)

    def test_values_that_are_gone(self):
        for step in self.right:
            self.assertIs(shows_arc_refusal(BELOW, FALL, self.right + (step,)), False)
            self.assertIs(shows_arc_refusal(BELOW, FALL, self.right[:2] + (step,) + self.right[2:]), False)

    def test_steps_behind_the_end(self):
        for step in (None, (), (1, 1, 0, 0), (1, 1, 0), (1, 1, 2, 0), (1, 3, 0, 1), (2, 1, 0, 1), (1, 1, 0, 2), [1, 1, 0, 1]):
            self.assertIs(shows_arc_refusal(BELOW, FALL, self.right + (step,)), False)

    def test_wrong_reasons(self):
        wrong = [(0, 0, 0, 0), (0, 1, 0, 0), (1, 0, 0, 0), (0, 2, 0, 1), (0, 2, 1, 0), (1, 0, 1, 1), (0, 1, 1, 1), (1, 2, 0, 1)]
        for step in wrong:
            self.assertIs(shows_arc_refusal(BELOW, FALL, (step,) + self.right), False)

    def test_what_is_no_step(self):
        for place in range(4):
            for value in WRONG + [2, 3]:
                for at in range(4):
                    step = self.right[at][:place] + (value,) + self.right[at][place + 1:]
                    steps = self.right[:at] + (step,) + self.right[at + 1:]
                    if step != self.right[at]:
                        with self.subTest(place=place, value=shown(value), at=at):
                            self.assertIs(shows_arc_refusal(BELOW, FALL, steps), False)
        for value in WRONG + [self.right[0][:3], self.right[0] + (0,), list(self.right[0])]:
            self.assertIs(shows_arc_refusal(BELOW, FALL, (value,) + self.right[1:]), False)

    def test_true_is_no_integer(self):
        steps = ((0, 1, 0, 0), (0, 0, 1, 0))
        for place in range(4):
            for at in (0, 1):
                bent = steps[at][:place] + (bool(steps[at][place]),) + steps[at][place + 1:]
                self.assertIs(shows_arc_refusal(ONLY, BOTH, steps[:at] + (bent,) + steps[at + 1:]), False)

    def test_against_the_definition(self):
        chance = random.Random(6)
        seen = set()
        for template, instance in some_questions(200, 7):
            steps = arc_refusal(template, instance)
            if steps is None:
                continue
            for _ in range(4):
                for bent in bendings(steps, instance, template[0], chance):
                    expected = plain_shows_arcs(template, instance, bent)
                    seen.add(expected)
                    with self.subTest(template=template, instance=instance, steps=bent):
                        self.assertIs(shows_arc_refusal(template, instance, bent), expected)
        self.assertEqual(seen, {True, False})

    def test_values_of_all_kinds(self):
        for template, instance in [(BELOW, FALL), (ONLY, BOTH), (UNLIKE, (0, ())), (UNLIKE, (1, ()))]:
            for value in ODD + [DEEP]:
                self.assertIs(shows_arc_refusal(template, instance, value), False)
                self.assertIs(shows_arc_refusal(template, instance, (value,)), False)
        self.assertIs(shows_arc_refusal(BELOW, FALL, list(self.right)), False)


class WrongValuesTest(unittest.TestCase):

    calls = [(pair_refusal, []), (arc_refusal, []), (shows_pair_refusal, [None]), (shows_arc_refusal, [None])]

    def test_instances(self):
        for function, others in self.calls:
            bad = [None, (17, ()), [1, ()], (True, ()), (1, None)]
            check_bad(self, function, [ORDER, None] + others, 1, bad, BadInstance, {"index": None})
            bad = [(2, ((0, (0, 1)), value)) for value in (None, (0, (0,)), (1, (0, 1)), (0, (0, 2)), (0, (0, True)), (0, [0, 1]))]
            check_bad(self, function, [ORDER, None] + others, 1, bad, BadInstance, {"index": 1})

    def test_leftmost_error(self):
        template, instance = ((2, (1,)), BadTemplate, {"index": 0}), ((1, ((0, (1, 1)),)), BadInstance, {"index": 0})
        for function, others in self.calls:
            check_leftmost(self, function, [ORDER, (1, ())] + others, [template, instance] + others)

    def test_any_value(self):
        for function in (pair_refusal, arc_refusal):
            check_any_value(self, function, [ONLY, BOTH])
        check_any_value(self, shows_pair_refusal, [ONLY, BOTH, ((0, 0, 1, 1, "row", 0), (0, 0, 0, 0, "row", 1))])
        check_any_value(self, shows_arc_refusal, [ONLY, BOTH, ((0, 1, 0, 0), (0, 0, 1, 0))])


if __name__ == "__main__":
    unittest.main()
