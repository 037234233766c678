"""The greatest gain within bounds, found by the simplex method in integers."""


class Simplex:
    """Amounts, none of them negative, that have the greatest gain within bounds.

    Each of rows tells how much each amount takes of a bound; bounds are integers that are
    not negative, gains integers. There must be a greatest gain. What a bound leaves over is
    an amount too, numbered behind the others. Some amounts are inside and have a row each,
    the others are outside, have a column each, and are 0. All entries are integers over the
    one denominator unit; they stay integers, as they are determinants of the given numbers.
    """

    def __init__(self, rows, bounds, gains):
        self.entries = [list(row) + [bound] for row, bound in zip(rows, bounds)]
        self.entries.append([-gain for gain in gains] + [0])
        self.unit = 1
        self.inside = list(range(len(gains), len(gains) + len(rows)))
        self.outside = list(range(len(gains)))
        self._run()

    def amounts(self):
        """The numerators, over unit, of all amounts, those that the bounds leave over behind the others."""
        found = [0] * (len(self.inside) + len(self.outside))
        for number, row in zip(self.inside, self.entries):
            found[number] = row[-1]
        return found

    def prices(self):
        """The numerators, over unit, of what a unit more of each amount would cost; 0 for those inside."""
        found = [0] * (len(self.inside) + len(self.outside))
        for number, price in zip(self.outside, self.entries[-1]):
            found[number] = price
        return found

    def gain(self):
        """The numerator, over unit, of the greatest gain."""
        return self.entries[-1][-1]

    def _run(self):
        careful = False
        column = self._entering(careful)
        while column is not None:
            row = self._leaving(column)
            # Without a gain the choice is by least numbers, so that no choices come back (R. Bland).
            careful = self.entries[row][-1] == 0
            self._exchange(row, column)
            column = self._entering(careful)

    def _entering(self, careful):
        """The column of an amount that would have a gain, None if there is none."""
        last = self.entries[-1]
        columns = [column for column in range(len(self.outside)) if last[column] < 0]
        if careful:
            return min(columns, key=lambda place: self.outside[place], default=None)
        return min(columns, key=lambda place: (last[place], self.outside[place]), default=None)

    def _leaving(self, column):
        """The row whose amount is the first to be 0 when the one of the column grows."""
        chosen = None
        for row, number in enumerate(self.inside):
            taken = self.entries[row][column]
            if taken > 0 and (chosen is None or self._is_sooner(row, chosen, column)):
                chosen = row
        return chosen

    def _is_sooner(self, row, other, column):
        entries = self.entries
        one = entries[row][-1] * entries[other][column]
        two = entries[other][-1] * entries[row][column]
        return one < two or (one == two and self.inside[row] < self.inside[other])

    def _exchange(self, row, column):
        """Brings the amount of a column inside, and the one of a row outside."""
        pivots = self.entries[row]
        exchanged = [self._exchanged(entries, pivots, column) for entries in self.entries]
        exchanged[row] = pivots[:column] + [self.unit] + pivots[column + 1:]
        self.entries = exchanged
        self.unit = pivots[column]
        self.inside[row], self.outside[column] = self.outside[column], self.inside[row]

    def _exchanged(self, entries, pivots, column):
        """The entries of another row behind an exchange."""
        pivot = pivots[column]
        factor = entries[column]
        if factor == 0 and pivot == self.unit:
            return entries
        further = [(entry * pivot - factor * other) // self.unit for entry, other in zip(entries, pivots)]
        further[column] = -factor
        return further
