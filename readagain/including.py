"""Whether all texts of one format are texts of another one."""

from readagain.judging import is_closed_tuple, is_place
from readagain.machines import machine_of
from readagain.pairing import is_end
from readagain.scores import value_of
from readagain.signs import is_pair
from readagain.sorts import is_value
from readagain.tracing import extended, first_layer, has_end, layer_behind
from readagain.walks import cheapest_ways, items_to, joined, reached_at_most
from readagain.writing import write

MOST_NODES = 2000


def lot_of(layer):
    """The ascending tuple of the places of a layer."""
    return tuple(sorted(layer))


def first_node(other):
    """The node ahead of all signs."""
    return (0, lot_of(first_layer(other)))


def beyond_steps(machine, other, node):
    """What follows a node, an empty lot, too: a list of (node behind, items, signs)."""
    place, lot = node
    row = machine[place]
    if row[0] == "marks":
        return [((behind, lot), (mark,), 0) for mark, behind in row[1]]
    if row[0] == "sign":
        return [((row[2], lot_of(layer_behind(other, lot, row[1]))), (row[1],), 1)]
    return []


def node_steps(machine, other, node):
    """What follows a node; nothing follows an empty lot."""
    return beyond_steps(machine, other, node) if node[1] else []


def is_beyond(machine, other, node):
    """Whether a node shows a text beyond: its lot is empty, or has no end where the text ends."""
    return not node[1] or ends_beyond(machine, other, node)


def ends_beyond(machine, other, node):
    """Whether a text ends at a node, and none of the other format's does."""
    return is_end(machine, node[0]) and not has_end(other, node[1])


def including(sort, format, other_sort, other_format):
    """Within and all nodes, or beyond and a value whose text is none of the other format's."""
    return included(sort, format, machine_of(sort, format), machine_of(other_sort, other_format))


def included(sort, format, machine, other):
    """What including tells, by both machines."""
    def steps_from(node):
        return node_steps(machine, other, node)
    nodes = reached_at_most([first_node(other)], steps_from, MOST_NODES)
    if not any(is_beyond(machine, other, node) for node in nodes):
        return ("within", tuple(sorted(nodes)))
    return ("beyond", value_of(sort, format, shortest_beyond(machine, other)))


def shortest_beyond(machine, other):
    """The score with the fewest signs whose text is none of the other machine's, where there is one."""
    def steps_from(node):
        return beyond_steps(machine, other, node)
    ways = cheapest_ways({0: [(first_node(other), None)]}, steps_from)
    # The nodes stand in the order of their costs, so the first one that will do has the fewest signs.
    found = [node for node in ways if ends_beyond(machine, other, node)]
    return joined(items_to(ways, found[0]))


def shows_within(machine, other, thing):
    """Whether a thing is a tuple of nodes by which no text beyond is come to."""
    def is_key(part):
        return is_node(machine, other, part)

    def keys_behind(node):
        return [step[0] for step in node_steps(machine, other, node)]

    def is_wrong(node):
        return is_beyond(machine, other, node)
    return is_closed_tuple(thing, is_key, [first_node(other)], keys_behind, is_wrong)


def is_node(machine, other, thing):
    """Whether a thing is a pair of a place and a tuple of places of the other machine."""
    if not is_pair(thing) or not is_place(machine, thing[0]) or not isinstance(thing[1], tuple):
        return False
    return all(is_place(other, place) for place in thing[1])


def is_outside(sort, format, value, other_sort, other_format):
    """Whether a thing is a value whose text is none of the other format's."""
    other = machine_of(other_sort, other_format)
    if not is_value(sort, value):
        return False
    text = write(sort, format, value)
    layers = [first_layer(other)] + extended(other, first_layer(other), text)
    return len(layers) <= len(text) or not has_end(other, layers[-1])


def same_texts(sort, format, other_sort, other_format):
    """Same and the nodes both ways round, or first or second and a value of it whose text the other one hasn't."""
    machine = machine_of(sort, format)
    other = machine_of(other_sort, other_format)
    told = included(sort, format, machine, other)
    if told[0] == "beyond":
        return ("first", told[1])
    back = included(other_sort, other_format, other, machine)
    if back[0] == "beyond":
        return ("second", back[1])
    return ("same", told[1], back[1])


def shows_same(machine, other, thing):
    """Whether a thing is a pair of tuples of nodes that show it, both ways round."""
    if not is_pair(thing):
        return False
    return shows_within(machine, other, thing[0]) and shows_within(other, machine, thing[1])
