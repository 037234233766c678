"""Arc consistency: the values of single variables, and how they are taken away.

A set of values is told as bits. A variable that a scope has twice may have two values there.
"""


def rows_left(rows, scope, masks):
    """The rows that have at each place a value that is left for the variable of the scope there."""
    left = [masks[variable] for variable in scope]
    return [row for row in rows if all([(mask >> value) & 1 for value, mask in zip(row, left)])]


class Narrowing:
    """Takes values of an instance away until nothing changes, or until a variable has none left.

    The steps that did it are kept, in the form of a refusal.
    """

    def __init__(self, template, instance):
        self.scopes = [scope for _, scope in instance[1]]
        self.rows = [template[1][index][1] for index, _ in instance[1]]
        self.masks = [(1 << template[0]) - 1] * instance[0]
        self.steps = []
        self.failed = False

    def run(self):
        """Takes away what can be taken away; returns whether all variables have values left."""
        touching = [[] for _ in self.masks]
        for index, scope in enumerate(self.scopes):
            for variable in scope:
                touching[variable].append(index)
        waiting = {index: True for index in range(len(self.scopes))}
        while waiting and not self.failed:
            changed = {}
            for index in waiting:
                self._follow(index, changed)
            waiting = {index: True for variable in changed for index in touching[variable]}
        return not self.failed

    def _follow(self, index, changed):
        """Takes away the values that no row of a constraint has, and notes whose they were."""
        scope = self.scopes[index]
        self.rows[index] = rows_left(self.rows[index], scope, self.masks)
        for place, variable in enumerate(scope):
            held = {row[place]: True for row in self.rows[index]}
            for value in range(self.masks[variable].bit_length()):
                if not self.failed and (self.masks[variable] >> value) & 1 and value not in held:
                    self.masks[variable] = self.masks[variable] & ~(1 << value)
                    self.steps.append((variable, value, index, place))
                    changed[variable] = True
                    self.failed = self.masks[variable] == 0
