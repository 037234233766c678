"""Constraints without the variables that need not be told, as far as few others are joined with them."""

from templates.checks import power_of
from templates.networks import Network
from templates.relations import all_rows
from templates.tables import Table

MOST_ROWS = 64


class Elimination:
    """Constraints: for each scope, ascending and of different variables, the rows of values that they allow.

    What no row allows is told by failed. A scope that allows all rows is left out.
    """

    def __init__(self, size, count, constraints):
        self.size = size
        self.failed = False
        self.rows = {}
        self.touching = [{} for _ in range(count)]
        for scope, rows in constraints:
            self._ask(scope, rows)

    def _ask(self, scope, rows):
        """Adds a constraint: pair of a scope and a list of different rows."""
        if scope in self.rows:
            before = set(self.rows[scope])
            rows = [row for row in rows if row in before]
        if not rows:
            self.failed = True
        if len(rows) == power_of(self.size, len(scope)):
            return
        self.rows[scope] = rows
        for variable in scope:
            self.touching[variable][scope] = True

    def take_out(self, variables):
        """Takes variables out, those with the fewest others first, until each one left has too many others."""
        left = list(variables)
        while left and not self.failed:
            variable = min(left, key=lambda k: (len(self._others(k)), k))
            others = self._others(variable)
            if power_of(self.size, len(others)) > MOST_ROWS:
                return
            left.remove(variable)
            self._take_out(variable, others)

    def _others(self, variable):
        """The ascending list of the other variables that constraints join with one."""
        others = set()
        for scope in self.touching[variable]:
            for other in scope:
                others.add(other)
        others.discard(variable)
        return sorted(others)

    def _take_out(self, variable, others):
        """Asks of the others alone that the variable can have a value."""
        asked = []
        for scope in list(self.touching[variable]):
            asked.append((scope, {row: True for row in self.rows.pop(scope)}))
            for other in scope:
                self.touching[other].pop(scope)
        rows = []
        for row in all_rows(self.size, len(others)):
            values = {other: value for other, value in zip(others, row)}
            if any([_allows(asked, {**values, variable: value}) for value in range(self.size)]):
                rows.append(row)
        self._ask(tuple(others), rows)

    def network(self):
        """The network of the constraints."""
        tables = {}
        constraints = []
        for scope, rows in self.rows.items():
            key = tuple(rows)
            if key not in tables:
                tables[key] = Table(self.size, len(scope), rows)
            constraints.append((scope, tables[key]))
        return Network(self.size, len(self.touching), constraints)


def _allows(asked, values):
    """Whether the variables may have these values by all constraints that are asked."""
    return all([tuple([values[variable] for variable in scope]) in rows for scope, rows in asked])
