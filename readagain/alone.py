"""Whether texts stand alone: none begins the text of an unlike value."""

from readagain.judging import is_closed_tuple, is_place_pair
from readagain.machines import machine_of
from readagain.pairing import either_way, is_end, pair_steps, pairs_apart, row_on, rows_to, starts_apart, ways_to_pairs
from readagain.scores import value_of
from readagain.sorts import is_value
from readagain.verdicts import first_pairs
from readagain.walks import reached
from readagain.writing import write


def standing(sort, format):
    """Alone and all pairs that are first, either way round, or follow, or begins and two values."""
    machine = machine_of(sort, format)
    ways = ways_to_pairs(machine, either_way(starts_apart(machine)))
    pairs = sorted(ways)
    begun = [pair for pair in pairs if is_end(machine, pair[0])]
    if not begun:
        return ("alone", tuple(pairs))
    one, other = rows_to(machine, ways, begun[0])
    whole = other + row_on(machine, begun[0][1])
    return ("begins", value_of(sort, format, one), value_of(sort, format, whole))


def is_alone(machine):
    """Whether all texts stand alone: of two that are unlike, neither is over where both have the same signs."""
    def steps_from(pair):
        return pair_steps(machine, machine, pair)
    pairs = reached(first_pairs(machine), steps_from)
    return not any(is_end(machine, one) or is_end(machine, other) for one, other in pairs)


def stands_alone(machine, thing):
    """Whether a thing is a tuple of pairs of places by which no first text ends."""
    def is_key(part):
        return is_place_pair(machine, machine, part)

    def keys_behind(pair):
        return [step[0] for step in pair_steps(machine, machine, pair)]

    def is_wrong(pair):
        return is_end(machine, pair[0])
    return is_closed_tuple(thing, is_key, pairs_apart(machine), keys_behind, is_wrong)


def does_begin(sort, format, one, other):
    """Whether two things are unlike values, the text of the one beginning that of the other."""
    if not is_value(sort, one) or not is_value(sort, other) or one == other:
        return False
    return write(sort, format, other).startswith(write(sort, format, one))
