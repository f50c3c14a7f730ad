"""In how many signs unlike texts differ, and whether two exchanged signs make another text."""

from readagain.judging import is_closed_tuple, is_count_or_none, is_place_pair, is_table
from readagain.machines import machine_of
from readagain.pairing import end_of, is_end, mark_steps, marks_apart, rows_to, starts_apart
from readagain.scores import value_of
from readagain.signs import is_pair, is_sign
from readagain.sorts import is_value
from readagain.walks import cheapest_ways, items_to, joined_pair, reached, ways_on, ways_up_to
from readagain.writing import write

FIRST_NODE = ((0, 0), "")
DONE = "done"


def slip_steps(machine, pair):
    """What follows a pair, unlike signs together, too: a list of (pair behind, items, cost)."""
    row, other_row = machine[pair[0]], machine[pair[1]]
    if row[0] == "marks" or other_row[0] == "marks":
        return mark_steps(row, other_row, pair)
    if row[0] == "end" or other_row[0] == "end":
        return []
    cost = 0 if row[1] == other_row[1] else 1
    return [((row[2], other_row[2]), ((row[1],), (other_row[1],)), cost)]


def first_slip_pairs(machine):
    """The list of the pairs of places behind unlike marks, the lesser one first."""
    return [(lesser[1], greater[1]) for _, lesser, greater in marks_apart(machine)]


def slips(sort, format):
    """Slips, in how many signs texts differ at least, two values and a table, or never and a table."""
    machine = machine_of(sort, format)
    ends = (end_of(machine), end_of(machine))

    def steps_from(pair):
        return slip_steps(machine, pair)
    edges = reached(first_slip_pairs(machine), steps_from)
    costs = ways_on(edges, [ends])[1]
    table = {pair: costs.get(pair) for pair in sorted(edges)}
    if ends not in table:
        return ("never", table)
    starts = [(pair, way) for pair, way, _ in starts_apart(machine)]
    one, other = rows_to(machine, cheapest_ways({0: starts}, steps_from), ends)
    values = (value_of(sort, format, one), value_of(sort, format, other))
    return ("slips", differ_in(sort, format, values[0], values[1])) + values + (table,)


def rules_out_fewer(machine, n, thing):
    """Whether a thing shows that unlike texts of one length differ in n signs at least, None: that there are none."""
    def is_key(part):
        return is_place_pair(machine, machine, part)
    if not is_count_or_none(n) or not is_table(thing, is_key, is_count_or_none):
        return False
    if not all(first in thing and is_at_most(n, thing[first], 0) for first in first_slip_pairs(machine)):
        return False
    for pair, least in thing.items():
        if is_end(machine, pair[0]) and is_end(machine, pair[1]) and least != 0:
            return False
        for behind, _, cost in slip_steps(machine, pair):
            if behind not in thing or not is_at_most(least, thing[behind], cost):
                return False
    return True


def is_at_most(number, other, added):
    """Whether a number is not above another one and what is added to it (None: above all numbers)."""
    return other is None or number is not None and number <= other + added


def differ_in(sort, format, one, other):
    """In how many signs the texts of unlike values differ; None for other things, or unlike lengths."""
    if not is_value(sort, one) or not is_value(sort, other) or one == other:
        return None
    text = write(sort, format, one)
    other_text = write(sort, format, other)
    if len(text) != len(other_text):
        return None
    return signs_apart(text, other_text)


def signs_apart(text, other):
    """In how many signs two texts of one length differ."""
    return len([at for at, sign in enumerate(text) if sign != other[at]])


def swap_steps(machine, node):
    """What follows a node: a list of (node behind, items of both, signs)."""
    pair, state = node
    row, other_row = machine[pair[0]], machine[pair[1]]
    if row[0] == "marks" or other_row[0] == "marks":
        return [((behind, state), items, 0) for behind, items, _ in mark_steps(row, other_row, pair)]
    if row[0] == "end" or other_row[0] == "end":
        return []
    behind_state = state_behind(state, row[1], other_row[1])
    if behind_state is None:
        return []
    return [(((row[2], other_row[2]), behind_state), ((row[1],), (other_row[1],)), 1)]


def state_behind(state, sign, other_sign):
    """The state behind a sign of each text, None if they can't go together."""
    if sign == other_sign:
        return state if state == "" or state == DONE else None
    if state == "":
        return sign + other_sign
    return DONE if state == other_sign + sign else None


def swaps(sort, format):
    """Safe and all nodes, or swapped and two values whose texts an exchange makes each other's."""
    machine = machine_of(sort, format)

    def steps_from(node):
        return swap_steps(machine, node)
    goal = ((end_of(machine), end_of(machine)), DONE)
    ways = ways_up_to(FIRST_NODE, steps_from, goal)
    if goal not in ways:
        return ("safe", tuple(sorted(ways)))
    one, other = joined_pair(items_to(ways, goal))
    return ("swapped", value_of(sort, format, one), value_of(sort, format, other))


def is_state(thing):
    """Whether a thing is a state of a node."""
    if not isinstance(thing, str):
        return False
    if thing == "" or thing == DONE:
        return True
    return len(thing) == 2 and thing[0] != thing[1] and is_sign(thing[0]) and is_sign(thing[1])


def keeps_swaps_out(machine, thing):
    """Whether a thing is a tuple of nodes by which no two ends are come to behind an exchange."""
    def is_key(part):
        return is_pair(part) and is_place_pair(machine, machine, part[0]) and is_state(part[1])

    def keys_behind(node):
        return [step[0] for step in swap_steps(machine, node)]

    def is_wrong(node):
        return node[1] == DONE and is_end(machine, node[0][0]) and is_end(machine, node[0][1])
    return is_closed_tuple(thing, is_key, [FIRST_NODE], keys_behind, is_wrong)


def are_swapped(sort, format, one, other):
    """Whether two things are values whose texts an exchange of unlike neighbours makes each other's."""
    if not is_value(sort, one) or not is_value(sort, other):
        return False
    text = write(sort, format, one)
    other_text = write(sort, format, other)
    if len(text) != len(other_text) or signs_apart(text, other_text) != 2:
        return False
    at = [text[place] == other_text[place] for place in range(len(text))].index(False)
    return text[at:at + 2] == other_text[at + 1] + other_text[at]
