"""Operations that have some of their arguments, one after the other."""


def argument_steps(size, operation):
    """A list of steps, one for each argument, that lead from number to number.

    The rest of a table behind its first arguments is a table of the further ones.
    Equal rests have one number, so that a search that goes from rest to rest meets
    each one once; steps[k][number][value] is the number of the next rest. The whole
    table has the number 0, and the last numbers are the values of the operation.
    """
    arity, table = operation
    rests = [table]
    steps = []
    for left in reversed(range(arity)):
        parts = [_parts(size, rest) for rest in rests]
        if left == 0:
            steps.append([[part[0] for part in row] for row in parts])
        else:
            numbers = _numbered(parts)
            steps.append([[numbers[part] for part in row] for row in parts])
            rests = list(numbers)
    return steps


def _parts(size, rest):
    """The rests of a rest, one for each value of its first argument."""
    block = len(rest) // size
    return [rest[value * block:(value + 1) * block] for value in range(size)]


def _numbered(parts):
    """A number for each of the parts, from 0, equal ones having one number."""
    numbers = {}
    for row in parts:
        for part in row:
            numbers.setdefault(part, len(numbers))
    return numbers
