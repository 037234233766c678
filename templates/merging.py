"""Things that turn out to be the same."""


class Merging:
    """So many things, numbered from 0, some of which are told to be the same."""

    def __init__(self, count):
        self.heads = list(range(count))

    def head(self, thing):
        """The least one of the things that are the same as this one."""
        while self.heads[thing] != thing:
            # A shorter way for the next time, so that long chains are gone through only once.
            self.heads[thing] = self.heads[self.heads[thing]]
            thing = self.heads[thing]
        return thing

    def merge(self, one, other):
        """Takes two things for the same from now on."""
        low, high = sorted([self.head(one), self.head(other)])
        self.heads[high] = low

    def numbered(self):
        """For each thing the number of what it is; these numbers ascend from 0 with the first things that have them."""
        given = {}
        for thing in range(len(self.heads)):
            head = self.head(thing)
            given.setdefault(head, len(given))
        return [given[self.head(thing)] for thing in range(len(self.heads))]
