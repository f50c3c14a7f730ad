"""All that is told of a format in a few words, and formats compared by it."""

from readagain.alone import is_alone
from readagain.counting import text_lengths
from readagain.emptiness import can_be_empty
from readagain.errors import TooLarge
from readagain.machines import machine_of
from readagain.resync import resync
from readagain.slips import slips, swaps
from readagain.sorts import how_many_values
from readagain.streams import lookahead
from readagain.verdicts import is_readable


def report(sort, format):
    """The pairs of words and what is told."""
    machine = machine_of(sort, format)
    return (
        ("places", len(machine)),
        ("values", how_many_values(sort)),
        ("lengths", text_lengths(machine)),
        ("readable", is_readable(machine)),
        ("alone", is_alone(machine)),
        ("late", how_late(sort, format)),
        ("end", how_soon_settled(sort, format)),
        ("slips", how_many_slips(sort, format)),
        ("swaps", swaps(sort, format)[0] == "safe"),
    )


def how_late(sort, format):
    """How many signs late first values are known; None for endless, -1 if a text is empty."""
    if can_be_empty(sort, format):
        return -1
    told = lookahead(sort, format)
    return told[1] if told[0] == "known" else None


def how_soon_settled(sort, format):
    """How many signs a reader from anywhere must see; None for lost, -1 if a text is empty, -2 for too many lots."""
    if can_be_empty(sort, format):
        return -1
    try:
        told = resync(sort, format)
    except TooLarge:
        return -2
    return told[1] if told[0] == "settled" else None


def how_many_slips(sort, format):
    """In how many signs unlike texts of one length differ at least; None for never."""
    told = slips(sort, format)
    return told[1] if told[0] == "slips" else None


def differences(sort, one, other):
    """The words of which unlike things are told for two formats, and these things."""
    told = report(sort, one)
    other_told = dict(report(sort, other))
    return tuple([(word, what, other_told[word]) for word, what in told if what != other_told[word]])


def best_of(sort, formats):
    """The number of the first of the best formats."""
    ranks = [rank_of(sort, format) for format in formats]
    return ranks.index(min(ranks))


def rank_of(sort, format):
    """What is less for a better format."""
    machine = machine_of(sort, format)
    late = how_late(sort, format)
    many = how_many_slips(sort, format)
    fewest = text_lengths(machine)[0]
    return (
        not is_readable(machine), not is_alone(machine), late is None, 0 if late is None else late,
        many is not None, 0 if many is None else -many, fewest)
