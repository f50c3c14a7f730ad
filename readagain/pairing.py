"""Pairs of places to which two scores come that have the same signs so far.

A way is told from behind: for each key that is come to, the way to it is None at the beginning,
else (key ahead, items by which one comes from there).
"""

from readagain.scores import text_of


def cheapest_ways(starts, steps_from):
    """The ways with the fewest signs to all keys that are come to, in a dict.

    starts: a dict of numbers of signs to lists of (key, way); steps_from tells of a key the list
    of (key behind, way to it, how many signs that takes: 0 or 1).
    """
    ways = {}
    waiting = {ahead: list(begun) for ahead, begun in starts.items()}
    many = 0
    while waiting:
        level = waiting.pop(many, [])
        many += 1
        while level:
            key, way = level.pop()
            if key in ways:
                continue
            ways[key] = way
            for behind, way_behind, signs in steps_from(key):
                if behind not in ways:
                    row = level if signs == 0 else waiting.setdefault(many, [])
                    row.append((behind, way_behind))
    return ways


def items_behind(row):
    """The pairs of an item that may follow at a place, and the place behind it."""
    if row[0] == "marks":
        return row[1]
    return ((row[1], row[2]),) if row[0] == "sign" else ()


def ways_to_places(machine):
    """The ways with the fewest signs from place 0 to all places."""
    def steps_from(place):
        signs = 1 if machine[place][0] == "sign" else 0
        return [(behind, (place, item), signs) for item, behind in items_behind(machine[place])]
    return cheapest_ways({0: [(0, None)]}, steps_from)


def row_to(ways, place):
    """The items by which a place is come to."""
    items = []
    while ways[place] is not None:
        place, item = ways[place]
        items.append(item)
    items.reverse()
    return tuple(items)


def pair_steps(machine, other_machine, pair):
    """What follows a pair: a list of (pair behind, (items of the one, of the other), signs)."""
    one, other = pair
    row, other_row = machine[one], other_machine[other]
    if row[0] == "marks":
        return [((behind, other), ((mark,), ()), 0) for mark, behind in row[1]]
    if other_row[0] == "marks":
        return [((one, behind), ((), (mark,)), 0) for mark, behind in other_row[1]]
    if row[0] == "sign" and other_row[0] == "sign" and row[1] == other_row[1]:
        return [((row[2], other_row[2]), ((row[1],), (row[1],)), 1)]
    return []


def marks_apart(machine):
    """The list of (place, lesser pair, greater pair) for each two marks that may follow one place."""
    found = []
    for place, row in enumerate(machine):
        if row[0] == "marks":
            for at, lesser in enumerate(row[1]):
                for greater in row[1][at + 1:]:
                    found.append((place, lesser, greater))
    return found


def ways_to_pairs(machine):
    """The ways with the fewest signs to all pairs behind unlike marks, and to those that follow.

    The first key of such a way is a place, behind it stands the pair of the marks.
    """
    ways = ways_to_places(machine)
    many_signs = {reached: len(text_of(row_to(ways, reached))) for reached in ways}
    starts = {}
    for place, lesser, greater in marks_apart(machine):
        way = (place, ((lesser[0],), (greater[0],)))
        starts.setdefault(many_signs[place], []).append(((lesser[1], greater[1]), way))

    def steps_from(pair):
        return [(behind, (pair, items), signs) for behind, items, signs in pair_steps(machine, machine, pair)]
    return cheapest_ways(starts, steps_from)


def rows_to(machine, ways, pair):
    """The two rows of items by which a pair is come to from place 0."""
    key = pair
    pieces = []
    while key in ways:
        key, items = ways[key]
        pieces.append(items)
    pieces.reverse()
    ahead = row_to(ways_to_places(machine), key)
    one = [item for piece in pieces for item in piece[0]]
    other = [item for piece in pieces for item in piece[1]]
    return (ahead + tuple(one), ahead + tuple(other))
