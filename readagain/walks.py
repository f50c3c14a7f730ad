"""Keys and the steps between them: what is come to, in which order, at which least costs.

A step is (key behind, items along it, cost: 0 or 1). Edges are a dict of keys to the lists of
their steps. A way is told from behind: for each key that is come to, the way to it is None at the
beginning, else (key ahead, items by which one comes from there).
"""

from readagain.errors import TooLarge


def reached(starts, steps_from):
    """The edges of all keys that are come to."""
    return reached_at_most(starts, steps_from, None)


def reached_at_most(starts, steps_from, most):
    """The edges of all keys that are come to; TooLarge(most) if these are more (None: any number will do)."""
    edges = {}
    waiting = list(starts)
    while waiting:
        key = waiting.pop()
        if key not in edges:
            if len(edges) == most:
                raise TooLarge(most)
            edges[key] = steps_from(key)
            waiting.extend([step[0] for step in edges[key]])
    return edges


def cheapest(starts, ways_from):
    """The pair of two dicts of all keys that are come to: the ways with the least costs, and these.

    starts: a dict of costs to lists of (key, way); ways_from tells of a key the list of (key
    behind, way to it, cost: 0 or 1).
    """
    ways = {}
    costs = {}
    waiting = {cost: list(begun) for cost, begun in starts.items()}
    spent = 0
    while waiting:
        level = waiting.pop(spent, [])
        while level:
            key, way = level.pop()
            if key in ways:
                continue
            ways[key] = way
            costs[key] = spent
            for behind, way_behind, added in ways_from(key):
                if behind not in ways:
                    row = level if added == 0 else waiting.setdefault(spent + 1, [])
                    row.append((behind, way_behind))
        spent += 1
    return (ways, costs)


def cheapest_ways(starts, steps_from):
    """The ways with the least costs from some starts, a dict of costs to lists of (key, way)."""
    def ways_from(key):
        return [(behind, (key, items), cost) for behind, items, cost in steps_from(key)]
    return cheapest(starts, ways_from)[0]


def ways_up_to(start, steps_from, goal):
    """Ways from a key to all keys, whatever they cost; only to some of them if the goal is come to.

    Where any way to the goal will do, one is found much sooner so.
    """
    ways = {}
    waiting = [(start, None)]
    while waiting and goal not in ways:
        key, way = waiting.pop()
        if key not in ways:
            ways[key] = way
            waiting.extend([(behind, (key, items)) for behind, items, _ in steps_from(key)])
    return ways


def ways_on(edges, goals):
    """As cheapest, but for the ways from all keys on to goals, each told by (key behind, items)."""
    ahead = {told: [] for told in edges}
    for source, steps in edges.items():
        for behind, items, cost in steps:
            ahead[behind].append((source, (behind, items), cost))

    def ways_from(key):
        return ahead[key]
    return cheapest({0: [(goal, None) for goal in goals if goal in edges]}, ways_from)


def items_to(ways, key):
    """The list of the items of the steps by which a key is come to, from the beginning on."""
    found = items_on(ways, key)
    found.reverse()
    return found


def items_on(ways, key):
    """The list of the items of the steps from a key on, where ways lead on to a goal."""
    found = []
    while ways[key] is not None:
        key, items = ways[key]
        found.append(items)
    return found


def joined(pieces):
    """Rows of items put together."""
    return tuple([item for piece in pieces for item in piece])


def joined_pair(pieces):
    """Pairs of rows of items put together."""
    return (joined([piece[0] for piece in pieces]), joined([piece[1] for piece in pieces]))


def ordered_keys(edges):
    """The keys that lead to no ring, in an order in which each stands behind those to which it leads."""
    ahead = {told: [] for told in edges}
    left = {}
    for key, steps in edges.items():
        left[key] = len(steps)
        for step in steps:
            ahead[step[0]].append(key)
    order = [sink for sink in edges if left[sink] == 0]
    at = 0
    while at < len(order):
        key = order[at]
        at += 1
        for source in ahead[key]:
            left[source] -= 1
            if left[source] == 0:
                order.append(source)
    return order


def greatest_costs(edges, order):
    """The dict of all keys, ascending, to the greatest costs of ways on from them."""
    costs = {}
    for key in order:
        costs[key] = max([cost + costs[behind] for behind, _, cost in edges[key]], default=0)
    return {told: costs[told] for told in sorted(costs)}


def finished_order(edges):
    """All keys, each behind those to which it leads, but for such as lead back to it."""
    order = []
    seen = {}
    for first in edges:
        waiting = [(first, False)]
        while waiting:
            key, is_gone_on_from = waiting.pop()
            if is_gone_on_from:
                order.append(key)
            elif key not in seen:
                seen[key] = True
                waiting.append((key, True))
                waiting.extend([(step[0], False) for step in edges[key]])
    return order


def ring_numbers(edges):
    """The dict of all keys to numbers, which are the same for those that lead to each other."""
    ahead = {told: [] for told in edges}
    for key, steps in edges.items():
        for step in steps:
            ahead[step[0]].append(key)
    numbers = {}
    for number, first in enumerate(reversed(finished_order(edges))):
        waiting = [first]
        while waiting:
            key = waiting.pop()
            if key not in numbers:
                numbers[key] = number
                waiting.extend(ahead[key])
    return numbers


def ring_in(edges):
    """A key, and the list of the items of steps that lead from it back to it and cost something.

    There must be such a ring. Not all rings will do: some may go round steps that cost nothing.
    """
    def steps_from(told):
        return edges[told]
    numbers = ring_numbers(edges)
    for key, steps in edges.items():
        for behind, items, cost in steps:
            if cost > 0 and numbers[behind] == numbers[key]:
                return (key, [items] + items_to(cheapest_ways({0: [(behind, None)]}, steps_from), key))
    return None
