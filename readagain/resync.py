"""How many signs a reader from anywhere must see to know where a text ends."""

from readagain.emptiness import check_no_text_is_empty
from readagain.judging import is_count, is_place, is_table
from readagain.machines import machine_of
from readagain.pairing import is_end
from readagain.signs import are_ascending
from readagain.tracing import layer_behind, layer_of, signs_behind
from readagain.walks import cheapest_ways, greatest_costs, items_to, ordered_keys, reached_at_most, ring_in

MOST_LOTS = 1000


def first_lot(machine):
    """All places ahead of a sign."""
    return tuple([place for place, row in enumerate(machine) if row[0] == "sign"])


def lot_steps(machine, lot):
    """The ascending list of (sign, lot behind it) for all signs that can come."""
    places = {}
    for place in lot:
        found = layer_of(machine, [0]) if is_end(machine, place) else {place: True}
        places.update(found)
    steps = []
    for sign in signs_behind(machine, places):
        layer = layer_behind(machine, places, sign)
        steps.append((sign, tuple(sorted([behind for behind in layer if machine[behind][0] != "marks"]))))
    return steps


def is_settled(machine, lot):
    """Whether a lot has ends alone."""
    return all(is_end(machine, place) for place in lot)


def unsettled_edges(machine):
    """The edges of all lots that are come to by such as aren't settled; TooLarge if these are too many."""
    def steps_from(lot):
        steps = [(behind, sign, 1) for sign, behind in lot_steps(machine, lot)]
        return [step for step in steps if not is_settled(machine, step[0])]
    return reached_at_most([first_lot(machine)], steps_from, MOST_LOTS)


def resync(sort, format):
    """Settled, the number of signs and a table, or lost, and two texts."""
    machine = machine_of(sort, format)
    check_no_text_is_empty(sort, format)
    edges = unsettled_edges(machine)
    order = ordered_keys(edges)
    if len(order) < len(edges):
        return ("lost",) + texts_lost(machine, edges)
    # One sign more than to the last lot that isn't settled.
    table = {lot: many + 1 for lot, many in greatest_costs(edges, order).items()}
    return ("settled", table[first_lot(machine)], table)


def texts_lost(machine, edges):
    """A text to a lot of a ring, and one round it."""
    def steps_from(lot):
        return edges[lot]
    lot, loop = ring_in(edges)
    ways = cheapest_ways({0: [(first_lot(machine), None)]}, steps_from)
    return ("".join(items_to(ways, lot)), "".join(loop))


def is_lot(machine, thing):
    """Whether a thing is an ascending tuple of places that aren't at marks."""
    if not isinstance(thing, tuple) or not all(is_place(machine, place) for place in thing):
        return False
    return are_ascending(thing) and all(machine[place][0] != "marks" for place in thing)


def shows_settled(machine, n, thing):
    """Whether a thing shows that a reader from anywhere is settled among n signs."""
    def is_key(part):
        return is_lot(machine, part)
    if not is_count(n) or not is_table(thing, is_key, is_count):
        return False
    first = first_lot(machine)
    if first not in thing or thing[first] > n:
        return False
    for lot, many in thing.items():
        for _, behind in lot_steps(machine, lot):
            if many == 0:
                return False
            if not is_settled(machine, behind) and (behind not in thing or thing[behind] >= many):
                return False
    return True


def shows_lost(machine, front, loop):
    """Whether a reader from anywhere may go round a loop behind a front, never being settled."""
    if not isinstance(front, str) or not isinstance(loop, str) or loop == "":
        return False
    lot = unsettled_behind(machine, first_lot(machine), front)
    return lot is not None and unsettled_behind(machine, lot, loop) == lot


def unsettled_behind(machine, lot, text):
    """The lot behind a text; None if it can't come, or a settled one is come to."""
    for sign in text:
        lots = dict(lot_steps(machine, lot))
        if sign not in lots or is_settled(machine, lots[sign]):
            return None
        lot = lots[sign]
    return lot
