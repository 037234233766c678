"""Forks of relations, and the relations that operations make of rows."""

from templates.checks import check_operation, check_relation, check_size, power_of
from templates.partial import argument_steps


def forks(size, relation):
    """The ascending tuple of the forks (place, a, b) of a relation."""
    check_size(size)
    check_relation(size, relation)
    return tuple(sorted(_showing_pairs(relation)))


def compact(size, relation):
    """The relation of the rows of the least pairs that show the forks of a relation."""
    check_size(size)
    check_relation(size, relation)
    rows = []
    for pair in _showing_pairs(relation).values():
        rows.extend(pair)
    return (relation[0], tuple(sorted(set(rows))))


def _showing_pairs(relation):
    """For each fork the least pair (row, row) that shows it."""
    arity, rows = relation
    shown = {}
    for row in rows:
        for other in rows:
            for place in range(arity):
                shown.setdefault((place, row[place], other[place]), (row, other))
                if row[place] != other[place]:
                    break
    return shown


def closure(size, operation, relation):
    """The least relation with the rows of a relation that an operation keeps."""
    check_size(size)
    check_operation(size, operation)
    check_relation(size, relation)
    arity, rows = relation
    closing = Closing(argument_steps(size, operation), arity)
    for row in rows:
        closing.keep(row)
    closing.close(power_of(size, arity))
    return (arity, tuple(sorted(closing.rows)))


class Closing:
    """Carries rows by an operation until there is no further row.

    An operation that has only some of its arguments is in a state: for each place the
    number of the rest of its table that they leave (see argument_steps). Each state is gone
    on from only once, however many arguments lead to it.
    """

    def __init__(self, steps, arity):
        self.steps = steps
        self.rows = []
        self.known = [{} for _ in steps] + [{}]
        self.states = [[] for _ in steps]
        self.states[0].append((0,) * arity)

    def keep(self, row):
        """Adds a row if it is a further one."""
        if row not in self.known[-1]:
            self.known[-1][row] = True
            self.rows.append(row)

    def close(self, most):
        """Adds all rows that are carried to, of which there are at most so many."""
        latest = 0
        while latest < len(self.rows) and len(self.rows) < most:
            self._use(latest)
            latest += 1

    def _use(self, latest):
        """Gives the operation all arguments up to the latest row that it did not have before."""
        before = [len(states) for states in self.states]
        for level, known in enumerate(before):
            for at in range(len(self.states[level])):
                # States from before have had all rows but the latest one.
                first = latest if at < known else 0
                for number in range(first, latest + 1):
                    self._extend(level, self.states[level][at], self.rows[number])

    def _extend(self, level, state, row):
        """Gives the operation in a state the next argument."""
        step = self.steps[level]
        further = tuple([step[number][value] for number, value in zip(state, row)])
        if level + 1 == len(self.steps):
            self.keep(further)
        elif further not in self.known[level + 1]:
            self.known[level + 1][further] = True
            self.states[level + 1].append(further)
