"""Whether each value can be told from its text, and what shows it."""

from readagain.machines import machine_of
from readagain.pairing import marks_apart, pair_steps, rows_to, ways_to_pairs
from readagain.scores import value_of
from readagain.signs import is_number, is_pair
from readagain.sorts import is_value
from readagain.writing import write


def first_pairs(machine):
    """The pairs of places behind each two unlike marks that may follow one place."""
    return tuple(sorted({(lesser[1], greater[1]) for _, lesser, greater in marks_apart(machine)}))


def pairs_behind(machine, pair):
    """The pairs that follow a pair: marks first, then signs together."""
    return tuple(sorted({step[0] for step in pair_steps(machine, machine, pair)}))


def verdict(sort, format):
    """Readable and all pairs that are first or follow, or twins and two values with one text."""
    machine = machine_of(sort, format)
    ways = ways_to_pairs(machine)
    end = machine.index(("end",))
    if (end, end) not in ways:
        return ("readable", tuple(sorted(ways)))
    one, other = rows_to(machine, ways, (end, end))
    return ("twins", value_of(sort, format, one), value_of(sort, format, other))


def is_closed(machine, thing):
    """Whether a thing is a tuple of pairs of places by which no two ends can be come to."""
    if not isinstance(thing, tuple):
        return False
    if not all(is_place_pair(machine, part) for part in thing):
        return False
    pairs = {part: True for part in thing}
    if not all(first in pairs for first in first_pairs(machine)):
        return False
    for pair in thing:
        if machine[pair[0]][0] == "end" and machine[pair[1]][0] == "end":
            return False
        if not all(behind in pairs for behind in pairs_behind(machine, pair)):
            return False
    return True


def is_place_pair(machine, thing):
    """Whether a thing is a pair of places of a machine."""
    return is_pair(thing) and all(is_number(place, 0, len(machine) - 1) for place in thing)


def are_twins(sort, format, one, other):
    """Whether two things are unlike values of the sort with one text."""
    if not is_value(sort, one) or not is_value(sort, other) or one == other:
        return False
    return write(sort, format, one) == write(sort, format, other)
