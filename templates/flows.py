"""Greatest flows.

A network is told by its capacities: a list, for each node, of what can flow from it to each
node. The last two nodes are the source and the sink.
"""


def near_side(capacities):
    """For each node but the last two: 1 if more could reach it behind a greatest flow, 0 otherwise.

    The nodes with 1 are the least side of the source in the cuts of the least capacity.
    """
    left = [list(row) for row in capacities]
    source, sink = len(left) - 2, len(left) - 1
    before = _reached(left, source)
    while sink in before:
        _push(left, _way(before, sink))
        before = _reached(left, source)
    return tuple([1 if node in before else 0 for node in range(source)])


def _reached(left, source):
    """For each node that something can still flow to, the node before it on a shortest way."""
    before = {source: None}
    waiting = [source]
    while waiting:
        node = waiting.pop(0)
        for following, capacity in enumerate(left[node]):
            if capacity > 0 and following not in before:
                before[following] = node
                waiting.append(following)
    return before


def _way(before, sink):
    """The pairs (node, node) of the way to the sink."""
    steps = []
    node = sink
    while before[node] is not None:
        steps.append((before[node], node))
        node = before[node]
    return steps


def _push(left, steps):
    """Sends along a way as much as can flow there."""
    amount = min([left[node][following] for node, following in steps])
    for node, following in steps:
        left[node][following] = left[node][following] - amount
        left[following][node] = left[following][node] + amount
