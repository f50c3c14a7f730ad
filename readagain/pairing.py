"""Pairs of places to which two scores come that have the same signs so far."""

from readagain.scores import text_of
from readagain.walks import cheapest_ways, items_on, items_to, joined, joined_pair, reached, ways_on


def end_of(machine):
    """The number of the end."""
    return machine.index(("end",))


def is_end(machine, place):
    """Whether a place is an end."""
    return machine[place][0] == "end"


def items_behind(row):
    """The pairs of an item that may follow at a place, and the place behind it."""
    if row[0] == "marks":
        return row[1]
    return ((row[1], row[2]),) if row[0] == "sign" else ()


def place_steps(machine, place):
    """What follows a place: a list of (place behind, (item,), signs)."""
    signs = 1 if machine[place][0] == "sign" else 0
    return [(behind, (item,), signs) for item, behind in items_behind(machine[place])]


def ways_to_places(machine):
    """The ways with the fewest signs from place 0 to all places."""
    def steps_from(place):
        return place_steps(machine, place)
    return cheapest_ways({0: [(0, None)]}, steps_from)


def row_to(ways, place):
    """The items by which a place is come to."""
    return joined(items_to(ways, place))


def row_on(machine, place):
    """Items by which a score that has come to a place goes on to its end, with the fewest signs."""
    def steps_from(key):
        return place_steps(machine, key)
    ways = ways_on(reached([place], steps_from), [end_of(machine)])[0]
    return joined(items_on(ways, place))


def pair_steps(machine, other_machine, pair):
    """What follows a pair: a list of (pair behind, (items of the one, of the other), signs)."""
    one, other = pair
    row, other_row = machine[one], other_machine[other]
    if row[0] == "marks" or other_row[0] == "marks":
        return mark_steps(row, other_row, pair)
    if row[0] == "sign" and other_row[0] == "sign" and row[1] == other_row[1]:
        return [((row[2], other_row[2]), ((row[1],), (row[1],)), 1)]
    return []


def mark_steps(row, other_row, pair):
    """What follows a pair by marks: those of the first one, or else those of the second one."""
    one, other = pair
    if row[0] == "marks":
        return [((behind, other), ((mark,), ()), 0) for mark, behind in row[1]]
    return [((one, behind), ((), (mark,)), 0) for mark, behind in other_row[1]]


def marks_apart(machine):
    """The list of (place, lesser pair, greater pair) for each two marks that may follow one place."""
    found = []
    for place, row in enumerate(machine):
        if row[0] == "marks":
            for at, lesser in enumerate(row[1]):
                for greater in row[1][at + 1:]:
                    found.append((place, lesser, greater))
    return found


def pairs_apart(machine):
    """The list of the pairs of places behind unlike marks, either mark first."""
    found = {}
    for _, lesser, greater in marks_apart(machine):
        found[(lesser[1], greater[1])] = True
        found[(greater[1], lesser[1])] = True
    return list(found)


def starts_apart(machine):
    """The list of (pair behind unlike marks, the lesser one first, way to it, how many signs that takes).

    The key ahead of such a way is a place, and the items are the pair of the marks.
    """
    ways = ways_to_places(machine)
    signs = {source: len(text_of(row_to(ways, source))) for source in ways}
    found = []
    for place, lesser, greater in marks_apart(machine):
        found.append(((lesser[1], greater[1]), (place, ((lesser[0],), (greater[0],))), signs[place]))
    return found


def either_way(starts):
    """Starts, and the same ones the other way round."""
    found = []
    for pair, way, signs in starts:
        place, items = way
        found.append((pair, way, signs))
        found.append(((pair[1], pair[0]), (place, (items[1], items[0])), signs))
    return found


def by_costs(starts):
    """The dict of costs to the lists of (key, way) of starts, each (key, way, cost)."""
    found = {}
    for key, way, cost in starts:
        found.setdefault(cost, []).append((key, way))
    return found


def ways_to_pairs(machine, starts):
    """The ways with the fewest signs to all pairs of starts, and to those that follow."""
    def steps_from(pair):
        return pair_steps(machine, machine, pair)
    return cheapest_ways(by_costs(starts), steps_from)


def rows_to(machine, ways, key):
    """The two rows of items by which a key is come to, behind the row up to the place of its marks."""
    pieces = []
    while key in ways:
        key, items = ways[key]
        pieces.append(items)
    pieces.reverse()
    ahead = row_to(ways_to_places(machine), key)
    one, other = joined_pair(pieces)
    return (ahead + one, ahead + other)
