"""The pairs of values that two variables of an instance can have, and how they are taken away.

A pair is told by four numbers: two variables, perhaps the same one twice, and their values.
"""

from templates.tables import TableStore


class Pairs:
    """The pairs that are still there, for each two of so many variables."""

    def __init__(self, size, count):
        self.size = size
        self.count = count
        # partners[one][other][value] are, as bits, the values of other that make pairs with a value of one.
        self.partners = [[_at_first(size, one == other) for other in range(count)] for one in range(count)]

    def has(self, one, other, value, second):
        """Whether two variables still have a pair."""
        return (self.partners[one][other][value] >> second) & 1 == 1

    def take(self, one, other, value, second):
        """Takes a pair away that is still there, in both orders."""
        self.partners[one][other][value] = self.partners[one][other][value] & ~(1 << second)
        self.partners[other][one][second] = self.partners[other][one][second] & ~(1 << value)

    def lack_third(self, one, other, value, second, third):
        """Whether no value of a third variable makes pairs with both values of a pair."""
        return self.partners[one][third][value] & self.partners[other][third][second] == 0

    def left(self, one, other):
        """The ascending list of the pairs of values that two variables still have."""
        size = self.size
        return [(value, second) for value in range(size) for second in range(size)
                if self.has(one, other, value, second)]

    def are_gone(self, one, other):
        """Whether two variables have no pair left."""
        return not any(self.partners[one][other])


def _at_first(size, is_one):
    """For each value of a variable all values of another one; or of the same one, the same value alone."""
    return [1 << value if is_one else (1 << size) - 1 for value in range(size)]


class Taking:
    """Takes pairs of an instance away until nothing can be taken away, or some two variables have none left.

    The steps that did it are kept, in the form of a refusal.
    """

    def __init__(self, template, instance):
        store = TableStore(template)
        made = [store.constraint(index, scope) for index, scope in instance[1]]
        self.pairs = Pairs(template[0], instance[0])
        self.steps = []
        self.failed = False
        self.scopes = [scope for scope, _ in made]
        # The rows of each constraint that still have all their pairs.
        self.rows = [table.rows for _, table in made]
        self.changed = []
        self.is_changed = {}

    def run(self):
        """Takes away what can be taken away; returns whether all variables have pairs left."""
        waiting = list(range(len(self.scopes)))
        while waiting and not self.failed:
            for index in waiting:
                self._follow_rows(index)
            waited = {}
            while self.changed and not self.failed:
                one, other = self.changed.pop()
                self.is_changed[one, other] = False
                self._note_constraints(one, other, waited)
                self._follow_change(one, other)
            waiting = sorted(waited)
        return not self.failed

    def _note_constraints(self, one, other, waited):
        """Adds to what waits the constraints that have both variables in their scopes."""
        for index, scope in enumerate(self.scopes):
            if one in scope and other in scope:
                waited[index] = True

    def _follow_rows(self, index):
        """Takes away the pairs that no row of a constraint has."""
        scope = self.scopes[index]
        rows = [row for row in self.rows[index] if self._has_all(scope, row)]
        self.rows[index] = rows
        for at, one in enumerate(scope):
            for place in range(at, len(scope)):
                held = {(row[at], row[place]): True for row in rows}
                self._keep_alone(one, scope[place], held, "row", index)

    def _has_all(self, scope, row):
        """Whether a row gives each two different variables a pair that is still there."""
        for at, one in enumerate(scope):
            for place in range(at + 1, len(scope)):
                if not self.pairs.has(one, scope[place], row[at], row[place]):
                    return False
        return True

    def _follow_change(self, one, other):
        """Takes away the pairs that cannot be completed now that two variables have fewer pairs."""
        for variable in range(self.pairs.count):
            self._follow_third(one, variable, other)
            self._follow_third(other, variable, one)

    def _follow_third(self, one, other, third):
        """Takes away the pairs of two variables to which a third one has no value."""
        held = {}
        for value, second in self.pairs.left(one, other):
            if not self.pairs.lack_third(one, other, value, second, third):
                held[value, second] = True
        self._keep_alone(one, other, held, "third", third)

    def _keep_alone(self, one, other, held, word, reason):
        """Takes away all pairs of two variables but those that are held."""
        for value, second in self.pairs.left(one, other):
            # A pair of a variable with itself is in both orders the same one.
            if self.failed or (value, second) in held:
                continue
            self.pairs.take(one, other, value, second)
            self.steps.append((one, other, value, second, word, reason))
            self._note_change(one, other)

    def _note_change(self, one, other):
        low, high = sorted([one, other])
        if self.pairs.are_gone(low, high):
            self.failed = True
        if not self.is_changed.get((low, high), False):
            self.is_changed[low, high] = True
            self.changed.append((low, high))
