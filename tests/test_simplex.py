"""The simplex method (used for points 31 and 32)."""

import itertools
import random
import unittest
from fractions import Fraction

from templates.simplex import Simplex


def solved(rows, sums):
    """The only solution of equations, None if there is not just one."""
    left = [[Fraction(entry) for entry in row] + [Fraction(due)] for row, due in zip(rows, sums)]
    count = len(left)
    for column in range(count):
        pivot = next((at for at in range(column, count) if left[at][column] != 0), None)
        if pivot is None:
            return None
        left[column], left[pivot] = left[pivot], left[column]
        left[column] = [entry / left[column][column] for entry in left[column]]
        for at in range(count):
            if at != column:
                left[at] = [entry - left[at][column] * other for entry, other in zip(left[at], left[column])]
    return [row[-1] for row in left]


def plain_greatest(rows, bounds, gains):
    """The greatest gain, by going through all corners."""
    count = len(gains)
    units = [[-int(at == other) for other in range(count)] for at in range(count)]
    every = list(zip(rows + units, list(bounds) + [0] * count))
    best = None
    for chosen in itertools.combinations(every, count):
        amounts = solved([row for row, _ in chosen], [due for _, due in chosen])
        if amounts is not None and all(sum(a * b for a, b in zip(row, amounts)) <= due for row, due in every):
            gain = sum(a * b for a, b in zip(gains, amounts))
            best = gain if best is None else max(best, gain)
    return best


class Watched(Simplex):
    """Notes how each amount that comes inside was chosen, what the bound was that it met, and what went outside for it."""

    def __init__(self, rows, bounds, gains):
        self.chosen = []
        self.met = []
        self.left = []
        Simplex.__init__(self, rows, bounds, gains)

    def _entering(self, careful):
        column = Simplex._entering(self, careful)
        last = self.entries[-1]
        gaining = [at for at in range(len(self.outside)) if last[at] < 0]
        self.chosen.append((careful, self.outside[column] if gaining else None, [(self.outside[at], last[at]) for at in gaining]))
        return column

    def _exchange(self, row, column):
        ratios = {self.inside[at]: Fraction(entries[-1], entries[column])
                  for at, entries in enumerate(self.entries[:-1]) if entries[column] > 0}
        first = min(number for number, ratio in ratios.items() if ratio == min(ratios.values()))
        self.left.append((self.inside[row], first))
        self.met.append(self.entries[row][-1])
        Simplex._exchange(self, row, column)


class Careful(Simplex):
    """Chooses by least numbers always."""

    def _entering(self, careful):
        return Simplex._entering(self, True)


class SimplexTest(unittest.TestCase):

    def check(self, rows, bounds, gains):
        simplex = Simplex(rows, bounds, gains)
        self.assertGreater(simplex.unit, 0)
        amounts = [Fraction(amount, simplex.unit) for amount in simplex.amounts()]
        prices = [Fraction(price, simplex.unit) for price in simplex.prices()]
        gain = Fraction(simplex.gain(), simplex.unit)
        count = len(gains)
        self.assertTrue(min(amounts) >= 0 and min(prices) >= 0)
        self.assertEqual(gain, sum(a * b for a, b in zip(gains, amounts)))
        self.assertEqual(gain, sum(a * b for a, b in zip(bounds, prices[count:])))
        for row, bound, left in zip(rows, bounds, amounts[count:]):
            self.assertEqual(sum(a * b for a, b in zip(row, amounts)) + left, bound)
        for at in range(count):
            self.assertEqual(sum(row[at] * price for row, price in zip(rows, prices[count:])) - gains[at], prices[at])
        return gain

    def test_against_all_corners(self):
        chance = random.Random(1)
        for _ in range(200):
            count = chance.randint(1, 3)
            rows = [[chance.randint(-3, 4) for _ in range(count)] for _ in range(chance.randint(1, 4))]
            # The last row makes sure that there is a greatest gain.
            rows.append([1] * count)
            bounds = [chance.choice((0, 0, 1, 2, 7)) for _ in rows]
            gains = [chance.randint(-2, 5) for _ in range(count)]
            self.assertEqual(self.check(rows, bounds, gains), plain_greatest(rows, bounds, gains))

    def test_choices_that_could_come_back(self):
        # V. Chvatal's and E. Beale's: choices by the greatest gain alone could go round in a circle.
        for rows, gains in [([[1, -11, -5, 18], [1, -3, -1, 2], [1, 0, 0, 0]], [10, -57, -9, -24]),
                            ([[25, -800, -100, 900], [50, -1200, -50, 300], [0, 0, 1, 0]], [75, -2000, 50, -600])]:
            self.assertEqual(self.check(rows, [0, 0, 1], gains), plain_greatest(rows, [0, 0, 1], gains))

    def test_choices_are_by_least_numbers_after_steps_without_a_gain(self):
        chance = random.Random(2)
        without = 0
        for _ in range(150):
            rows = [[chance.randint(-3, 4) for _ in range(5)] for _ in range(4)] + [[1] * 5]
            gains = [chance.randint(-2, 5) for _ in range(5)]
            watched = Watched(rows, [0, 0, chance.randint(0, 1), 0, 3], gains)
            self.assertEqual([careful for careful, _, _ in watched.chosen], [False] + [met == 0 for met in watched.met])
            self.assertTrue(all(number == first for number, first in watched.left))
            for careful, number, gaining in watched.chosen:
                without += careful
                if careful and gaining:
                    self.assertEqual(number, min(other for other, _ in gaining))
                elif gaining:
                    self.assertEqual(dict(gaining)[number], min(gain for _, gain in gaining))
        self.assertGreater(without, 100)

    def test_least_numbers_alone_lead_to_the_same_gain(self):
        chance = random.Random(3)
        for _ in range(100):
            rows = [[chance.randint(-3, 4) for _ in range(4)] for _ in range(3)] + [[1] * 4]
            bounds, gains = [0, 0, chance.randint(0, 2), 5], [chance.randint(-2, 5) for _ in range(4)]
            one, other = Simplex(rows, bounds, gains), Careful(rows, bounds, gains)
            self.assertEqual(Fraction(one.gain(), one.unit), Fraction(other.gain(), other.unit))

    def test_no_gain(self):
        self.assertEqual(self.check([[1, 2]], [3], [-1, 0]), 0)
        self.assertEqual(self.check([[1, 1], [1, -1]], [0, 0], [1, 1]), 0)

    def test_great_numbers(self):
        great = 10 ** 50
        self.assertEqual(self.check([[1, 2], [2, 1]], [great, great], [1, 1]), Fraction(2 * great, 3))


if __name__ == "__main__":
    unittest.main()
