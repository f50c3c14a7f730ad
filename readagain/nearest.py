"""The texts of a format that are nearest to a text: by the fewest changes of signs."""

from readagain.errors import BadText
from readagain.judging import is_count, is_place, is_table
from readagain.machines import machine_of
from readagain.pairing import end_of, is_end
from readagain.scores import value_of
from readagain.signs import is_number, is_pair, is_tuple_of
from readagain.sorts import is_value
from readagain.walks import items_on, joined, reached, ways_on
from readagain.writing import write

LONGEST_TEXT = 60
FIRST_NODE = (0, 0)


def changes_between(one, other):
    """The fewest signs exchanged, put in or taken out by which one text becomes another one."""
    row = list(range(len(other) + 1))
    for at, sign in enumerate(one):
        next_row = [at + 1]
        for place, other_sign in enumerate(other):
            exchanged = row[place] + (0 if sign == other_sign else 1)
            next_row.append(min(exchanged, row[place + 1] + 1, next_row[place] + 1))
        row = next_row
    return row[-1]


def node_steps(machine, text, node):
    """What follows a node (place, signs of the text behind it): a list of (node behind, items, cost)."""
    place, many = node
    row = machine[place]
    if row[0] == "marks":
        return [((behind, many), (mark,), 0) for mark, behind in row[1]]
    steps = []
    if many < len(text):
        steps.append(((place, many + 1), (), 1))
    if row[0] == "sign":
        steps.append(((row[2], many), (row[1],), 1))
    if row[0] == "sign" and many < len(text):
        steps.append(((row[2], many + 1), (row[1],), 0 if text[many] == row[1] else 1))
    return steps


def checked_machine(sort, format, text):
    """The machine of a format; BadText for what is no text of at most 60 characters."""
    machine = machine_of(sort, format)
    if not isinstance(text, str) or len(text) > LONGEST_TEXT:
        raise BadText(0)
    return machine


def nearest(sort, format, text):
    """The fewest changes to a text of the format, a value with such a text, and the table of all nodes."""
    machine = checked_machine(sort, format, text)

    def steps_from(node):
        return node_steps(machine, text, node)
    edges = reached([FIRST_NODE], steps_from)
    ways, costs = ways_on(edges, [(end_of(machine), len(text))])
    row = joined(items_on(ways, FIRST_NODE))
    return (costs[FIRST_NODE], value_of(sort, format, row), {node: costs[node] for node in sorted(edges)})


def no_nearer(machine, text, n, thing):
    """Whether a thing shows that a text becomes one of the format by n changes at least."""
    if not isinstance(text, str) or not is_count(n):
        return False

    def is_key(part):
        return is_pair(part) and is_place(machine, part[0]) and is_number(part[1], 0, len(text))
    if not is_table(thing, is_key, is_count) or FIRST_NODE not in thing or thing[FIRST_NODE] < n:
        return False
    for node, least in thing.items():
        if is_end(machine, node[0]) and node[1] == len(text) and least != 0:
            return False
        for behind, _, cost in node_steps(machine, text, node):
            if behind not in thing or least > thing[behind] + cost:
                return False
    return True


def is_nearest(sort, format, text, thing):
    """Whether a thing is the fewest changes, a value with a text by so many, and a table that shows it."""
    machine = checked_machine(sort, format, text)
    if not is_tuple_of(thing, 3, 3):
        return False
    n, value, table = thing
    if not is_value(sort, value) or not no_nearer(machine, text, n, table):
        return False
    return changes_between(text, write(sort, format, value)) == n
