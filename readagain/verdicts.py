"""Whether each value can be told from its text, and what shows it."""

from readagain.judging import is_closed_tuple, is_place_pair
from readagain.machines import machine_of
from readagain.pairing import end_of, is_end, marks_apart, pair_steps, rows_to, starts_apart, ways_to_pairs
from readagain.scores import value_of
from readagain.sorts import is_value
from readagain.writing import write


def first_pairs(machine):
    """The pairs of places behind each two unlike marks that may follow one place."""
    return tuple(sorted({(lesser[1], greater[1]) for _, lesser, greater in marks_apart(machine)}))


def pairs_behind(machine, pair):
    """The pairs that follow a pair: marks first, then signs together."""
    return tuple(sorted({step[0] for step in pair_steps(machine, machine, pair)}))


def verdict(sort, format):
    """Readable and all pairs that are first or follow, or twins and two values with one text."""
    machine = machine_of(sort, format)
    ways = ways_to_pairs(machine, starts_apart(machine))
    ends = (end_of(machine), end_of(machine))
    if ends not in ways:
        return ("readable", tuple(sorted(ways)))
    one, other = rows_to(machine, ways, ends)
    return ("twins", value_of(sort, format, one), value_of(sort, format, other))


def is_readable(machine):
    """Whether all values can be told from their texts."""
    return (end_of(machine), end_of(machine)) not in ways_to_pairs(machine, starts_apart(machine))


def is_closed(machine, thing):
    """Whether a thing is a tuple of pairs of places by which no two ends can be come to."""
    def is_key(part):
        return is_place_pair(machine, machine, part)

    def keys_behind(pair):
        return pairs_behind(machine, pair)

    def is_wrong(pair):
        return is_end(machine, pair[0]) and is_end(machine, pair[1])
    return is_closed_tuple(thing, is_key, first_pairs(machine), keys_behind, is_wrong)


def are_twins(sort, format, one, other):
    """Whether two things are unlike values of the sort with one text."""
    if not is_value(sort, one) or not is_value(sort, other) or one == other:
        return False
    return write(sort, format, one) == write(sort, format, other)
