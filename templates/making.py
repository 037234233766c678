"""The operations of an arity that are made of given ones.

The places of a table are told as bits. An operation is told by its planes: for each
value, the places of the table at which it stands.
"""

from templates.checks import power_of
from templates.partial import argument_steps


def planes_of(size, table):
    """The planes of an operation with this table."""
    planes = [0] * size
    for place, value in enumerate(table):
        planes[value] = planes[value] | (1 << place)
    return tuple(planes)


def table_of(planes, length):
    """The table of an operation with these planes."""
    table = [0] * length
    for value, plane in enumerate(planes):
        for place in range(length):
            if (plane >> place) & 1:
                table[place] = value
    return tuple(table)


class Making:
    """Makes operations of given ones until there are no further ones, or more than most.

    planes and origins tell of each operation made what it is, and the step of a term that
    makes it of earlier ones. A given operation that has only some of its arguments is in a
    state: the places of the table for each rest that these arguments lead to. Each state is
    gone on from only once, however many arguments lead to it.
    """

    def __init__(self, size, operations, projections, most):
        self.size = size
        self.most = most
        self.bound = power_of(size, len(projections[0]))
        self.planes = []
        self.origins = []
        self.numbers = {}
        self.steps = [argument_steps(size, operation) for operation in operations]
        # Without arguments all places have the one rest that is the whole table.
        beginning = (((1 << len(projections[0])) - 1,), ())
        self.states = [[[beginning]] + [[] for _ in steps[1:]] for steps in self.steps]
        self.known = [[{} for _ in steps] for steps in self.steps]
        for place, table in enumerate(projections):
            self._keep(planes_of(size, table), ("input", place))

    def make(self):
        """Makes the operations; returns whether there are at most most of them."""
        latest = 0
        while latest < len(self.planes) and not self._is_done():
            for index in range(len(self.steps)):
                self._use(index, latest)
            latest += 1
        return len(self.planes) <= self.most

    def _is_done(self):
        """Whether there is no need to go on: there are all operations, or too many."""
        return len(self.planes) >= self.bound or len(self.planes) > self.most

    def _keep(self, planes, origin):
        if planes not in self.numbers:
            self.numbers[planes] = len(self.planes)
            self.planes.append(planes)
            self.origins.append(origin)

    def _use(self, index, latest):
        """Gives a given operation all arguments up to the latest one that it did not have before."""
        before = [len(states) for states in self.states[index]]
        for level in range(len(before)):
            for at in range(len(self.states[index][level])):
                if self._is_done():
                    return
                # States from before have had all arguments but the latest one.
                first = latest if at < before[level] else 0
                for number in range(first, latest + 1):
                    self._extend(index, level, at, number)

    def _extend(self, index, level, at, number):
        """Gives a given operation in a state the next argument, the operation made with this number."""
        steps = self.steps[index]
        state, path = self.states[index][level][at]
        path = path + (number,)
        if level + 1 == len(steps):
            self._keep(_behind(steps[level], state, self.planes[number], self.size), ("apply", index, path))
            return
        further = _behind(steps[level], state, self.planes[number], len(steps[level + 1]))
        if further not in self.known[index][level + 1]:
            self.known[index][level + 1][further] = True
            self.states[index][level + 1].append((further, path))


def _behind(step, state, planes, count):
    """The state, of count parts, behind a state when the next argument has these planes."""
    further = [0] * count
    for number, places in enumerate(state):
        for value, plane in enumerate(planes):
            if places & plane:
                following = step[number][value]
                further[following] = further[following] | (places & plane)
    return tuple(further)
