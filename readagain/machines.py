"""Machines: what may follow in scores, place by place."""

from readagain.building import whole_draft


def machine_of(sort, format):
    """The tuple of the places of a format."""
    text, nodes = whole_draft(sort, format)
    numbers = {(text, 0): 0}
    keys = [(text, 0)]
    places = []
    while len(places) < len(keys):
        rest, node = keys[len(places)]
        edges = edges_from(rest, nodes[node], node)
        for _, key in edges:
            if key not in numbers:
                numbers[key] = len(keys)
                keys.append(key)
        if rest != "":
            places.append(("sign", rest[0], numbers[edges[0][1]]))
        elif nodes[node] is None:
            places.append(("end",))
        else:
            places.append(("marks", tuple([(mark, numbers[behind]) for mark, behind in edges])))
    return tuple(places)


def edges_from(rest, edges, node):
    """The pairs of an item and of what is left to write, and the node behind that."""
    if rest != "":
        return [(rest[0], (rest[1:], node))]
    return [(mark, (text, behind)) for mark, text, behind in edges or []]


def place_behind(machine, items):
    """The place to which items lead, None if no score begins with them."""
    return place_from(machine, 0, items)


def place_from(machine, place, items):
    """The place to which items lead from a place, None if they can't follow there."""
    for item in items:
        place = place_by(machine[place], item)
        if place is None:
            return None
    return place


def place_by(row, item):
    """The number of the place behind an item, None if it can't follow."""
    if row[0] == "marks":
        for mark, behind in row[1]:
            if mark == item:
                return behind
    if row[0] == "sign" and row[1] == item:
        return row[2]
    return None
