"""Rows that narrow the values which variables can have.

A set of values is told as bits: value 0 is bit 0, and so on; likewise a set of rows.
"""

BIT_COUNTS = (0, 1, 1, 2, 1, 2, 2, 3, 1, 2, 2, 3, 2, 3, 3, 4)


class Table:
    """A relation between different variables, by the sets of values that they can have."""

    def __init__(self, size, width, rows):
        self.size = size
        self.rows = rows
        self.holders = [_holders(size, place, rows) for place in range(width)]
        self.known = {}
        self.silent = {}

    def narrowed(self, masks):
        """The sets of the values that are left in the rows within the sets, None if there is no row."""
        if masks not in self.known:
            self.known[masks] = self._narrow(masks)
        return self.known[masks]

    def _narrow(self, masks):
        within = self._within(masks)
        if within == 0:
            return None
        return tuple([self._values(place, within) for place in range(len(masks))])

    def _within(self, masks):
        """The rows within the sets."""
        within = (1 << len(self.rows)) - 1
        for place, mask in enumerate(masks):
            within = within & self.holders[place][mask]
        return within

    def _values(self, place, within):
        """The values that some of the rows have at the place."""
        values = 0
        for value in range(self.size):
            if within & self.holders[place][1 << value]:
                values = values | (1 << value)
        return values

    def is_silent(self, masks):
        """Whether all tuples of values in the sets are rows, so that nothing is told."""
        if masks not in self.silent:
            self.silent[masks] = self._lacks_none(masks)
        return self.silent[masks]

    def _lacks_none(self, masks):
        tuples = 1
        for mask in masks:
            tuples = tuples * BIT_COUNTS[mask]
        within = self._within(masks)
        return tuples == sum([(within >> at) & 1 for at in range(len(self.rows))])


def _holders(size, place, rows):
    """For each set of values the rows that have one of them at the place."""
    holders = [0] * (1 << size)
    for at, row in enumerate(rows):
        for mask in range(1 << size):
            if (mask >> row[place]) & 1:
                holders[mask] = holders[mask] | (1 << at)
    return holders


class TableStore:
    """Makes the tables of the relations of a template, each one once."""

    def __init__(self, template):
        self.template = template
        self.made = {}

    def constraint(self, index, scope):
        """The pair (ascending tuple of different variables, table) that says what a constraint says."""
        variables = sorted(set(scope))
        pattern = tuple([variables.index(variable) for variable in scope])
        if (index, pattern) not in self.made:
            size, relations = self.template
            rows = fitting_rows(relations[index][1], pattern)
            self.made[index, pattern] = Table(size, len(variables), rows)
        return (tuple(variables), self.made[index, pattern])


def fitting_rows(rows, pattern):
    """The values of the different variables of a scope, for each row that gives each one value.

    The pattern tells for each place of the scope the number, from 0, of the variable that stands there.
    """
    fitting = []
    for row in rows:
        values = {}
        for variable, value in zip(pattern, row):
            values.setdefault(variable, value)
        if all([values[variable] == value for variable, value in zip(pattern, row)]):
            fitting.append(tuple([values[variable] for variable in range(len(values))]))
    return fitting
