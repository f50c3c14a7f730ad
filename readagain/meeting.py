"""Whether some text is written by two formats."""

from readagain.judging import is_closed_tuple, is_place_pair
from readagain.machines import machine_of
from readagain.pairing import end_of, is_end, pair_steps
from readagain.scores import value_of
from readagain.sorts import is_value
from readagain.walks import cheapest_ways, items_to, joined_pair
from readagain.writing import write

FIRST = (0, 0)


def meeting(sort, format, other_sort, other_format):
    """Apart and all pairs of places that are come to, or met and two values with one text."""
    machine = machine_of(sort, format)
    other = machine_of(other_sort, other_format)

    def steps_from(pair):
        return pair_steps(machine, other, pair)
    ways = cheapest_ways({0: [(FIRST, None)]}, steps_from)
    ends = (end_of(machine), end_of(other))
    if ends not in ways:
        return ("apart", tuple(sorted(ways)))
    row, other_row = joined_pair(items_to(ways, ends))
    return ("met", value_of(sort, format, row), value_of(other_sort, other_format, other_row))


def keeps_apart(machine, other, thing):
    """Whether a thing is a tuple of pairs of places by which no two ends are come to from (0, 0)."""
    def is_key(part):
        return is_place_pair(machine, other, part)

    def keys_behind(pair):
        return [step[0] for step in pair_steps(machine, other, pair)]

    def is_wrong(pair):
        return is_end(machine, pair[0]) and is_end(other, pair[1])
    return is_closed_tuple(thing, is_key, [FIRST], keys_behind, is_wrong)


def do_meet(sort, format, value, other_sort, other_format, other_value):
    """Whether two things are values with one text."""
    if not is_value(sort, value) or not is_value(other_sort, other_value):
        return False
    return write(sort, format, value) == write(other_sort, other_format, other_value)
