"""The least cost of a relaxed assignment.

For given shares of the values, what the rows of a term cost at least is the greatest worth
that prices give these shares, if for no row they add up to more than its cost. So it is the
greatest of the worths by finitely many prices, those of the trees of _tree_prices. A term
uses them in amounts that add up to its weight; which amounts give the greatest bounds is
found by the simplex method, and the shares are its prices.
"""

from itertools import combinations

from templates.operations import position
from templates.ratios import ratio
from templates.relations import all_rows
from templates.simplex import Simplex


def price_choices(size, function):
    """The prices, for each place a tuple for each value, of which a term takes amounts."""
    arity, table = function
    if arity == 1:
        return [(table,)]
    choices = {}
    for prices in _tree_prices(size, table, size + size - 1):
        if all([prices[0][a] + prices[1][b] <= table[position(size, (a, b))] for a, b in all_rows(size, 2)]):
            choices[prices] = True
    return list(choices)


def _tree_prices(size, table, many):
    """All prices that so many rows, if they join all values of both places, fix to their costs.

    The first price is 0: more at one place and as much less at the other one makes no difference.
    """
    rows = all_rows(size, 2)
    found = []
    for tree in combinations(rows, many):
        fixed = _fixed(size, table, tree)
        if len(fixed) == size + size:
            places = [tuple([fixed[place, value] for value in range(size)]) for place in range(2)]
            found.append(tuple(places))
    return found


def _fixed(size, table, tree):
    """The prices for each (place, value) that some rows fix, when that of the first one is 0."""
    fixed = {(0, 0): 0}
    for _ in range(size + size):
        for a, b in tree:
            cost = table[position(size, (a, b))]
            if (0, a) in fixed:
                fixed.setdefault((1, b), cost - fixed[0, a])
            elif (1, b) in fixed:
                fixed[0, a] = cost - fixed[1, b]
    return fixed


def _add_prices(worths, prices, scope, amount):
    """Adds an amount of prices to the worths of the values of the variables in a scope."""
    for variable, told in zip(scope, prices):
        for value, price in enumerate(told):
            worths[variable][value] += amount * price


class Relaxation:
    """A relaxed assignment of the least cost, and bounds and prices that certify it.

    Without amounts that are moved each term uses its first choice. Moves are the pairs
    (term, further choice); the amounts of the simplex method are first those that are
    moved there, then for each variable how much is left above its bound at its value that
    was the cheapest one at first. The rest are left over at the other values, then at the terms.
    """

    def __init__(self, costs, instance):
        self.size, functions = costs
        self.variables, self.terms = instance
        self.choices = [price_choices(self.size, function) for function in functions]
        self.worths = self._blank()
        for index, scope, weight in self.terms:
            _add_prices(self.worths, self.choices[index][0], scope, weight)
        self.cheapest = [worths.index(min(worths)) for worths in self.worths]
        self.moves = [(number, choice) for number, term in enumerate(self.terms)
                      for choice in range(1, len(self.choices[term[0]]))]
        self.others = [(variable, value) for variable in range(self.variables) for value in range(self.size)
                       if value != self.cheapest[variable]]
        self.simplex = self._solved()
        self.used = self._used()

    def _blank(self):
        """0 for each value of each variable."""
        return [[0] * self.size for _ in range(self.variables)]

    def _solved(self):
        changes = [self._change(number, choice) for number, choice in self.moves]
        rows = []
        bounds = []
        for variable, value in self.others:
            low = self.cheapest[variable]
            row = [change[variable][low] - change[variable][value] for change in changes]
            rows.append(row + [-1 if other == variable else 0 for other in range(self.variables)])
            bounds.append(self.worths[variable][value] - self.worths[variable][low])
        for number, term in enumerate(self.terms):
            rows.append([1 if moved == number else 0 for moved, _ in self.moves] + [0] * self.variables)
            bounds.append(term[2])
        return Simplex(rows, bounds, [self._gain(change) for change in changes] + [-1] * self.variables)

    def _gain(self, change):
        """How much a change adds to the sum of the worths that were the cheapest ones at first."""
        return sum([worths[value] for worths, value in zip(change, self.cheapest)])

    def _change(self, number, choice):
        """How the worths change when a term uses one more of another choice, and one less of the first one."""
        index, scope, _ = self.terms[number]
        change = self._blank()
        _add_prices(change, self.choices[index][choice], scope, 1)
        _add_prices(change, self.choices[index][0], scope, -1)
        return change

    def _used(self):
        """For each term how much it uses of each choice, over the unit of the simplex method."""
        unit = self.simplex.unit
        used = [[weight * unit] + [0] * (len(self.choices[index]) - 1) for index, _, weight in self.terms]
        for (number, choice), amount in zip(self.moves, self.simplex.amounts()):
            used[number][choice] = amount
            used[number][0] = used[number][0] - amount
        return used

    def cost(self):
        """The least cost, a ratio."""
        first = sum([min(worths) for worths in self.worths])
        return ratio(first * self.simplex.unit + self.simplex.gain(), self.simplex.unit)

    def shares(self):
        """For each variable the shares of its values."""
        told = self.simplex.prices()[len(self.moves):]
        shares = self._blank()
        for variable, value in enumerate(self.cheapest):
            shares[variable][value] = told[variable]
        for (variable, value), share in zip(self.others, told[self.variables:]):
            shares[variable][value] = share
        return tuple([self._ratios(row) for row in shares])

    def bounds(self):
        """For each variable the least sum of the prices of a value."""
        worths = self._blank()
        for (index, scope, _), used in zip(self.terms, self.used):
            for prices, amount in zip(self.choices[index], used):
                _add_prices(worths, prices, scope, amount)
        return self._ratios([min(row) for row in worths])

    def prices(self):
        """For each term, at each place, the price of each value."""
        return tuple([self._term_prices(number) for number in range(len(self.terms))])

    def _term_prices(self, number):
        index, scope, _ = self.terms[number]
        # The places stand here for the variables.
        places = list(range(len(scope)))
        sums = [[0] * self.size for _ in places]
        for prices, amount in zip(self.choices[index], self.used[number]):
            _add_prices(sums, prices, places, amount)
        return tuple([self._ratios(row) for row in sums])

    def _ratios(self, numerators):
        return tuple([ratio(numerator, self.simplex.unit) for numerator in numerators])
