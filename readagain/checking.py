"""The least check signs by which wrong and exchanged signs are always seen."""

from readagain.errors import BadThing
from readagain.judging import shows_first
from readagain.machines import machine_of
from readagain.signs import is_integer, is_number, is_pair
from readagain.slips import are_swapped, differ_in, keeps_swaps_out, rules_out_fewer, slips, swaps

MOST_WRONG = 3
LEAST_MODULUS = 2
GREATEST_MODULUS = 16


def checked_formats(format, n, most):
    """The list of (check, format with it) for all moduli up to the most, then factors; BadThing for wrong numbers."""
    if not is_number(n, 1, MOST_WRONG):
        raise BadThing(n)
    if not is_number(most, LEAST_MODULUS, GREATEST_MODULUS):
        raise BadThing(most)
    checks = [(modulus, factor) for modulus in range(LEAST_MODULUS, most + 1) for factor in range(1, modulus)]
    return [(check, ("checked",) + check + (format,)) for check in checks]


def least_check(sort, format, n, most):
    """The first check that shows n wrong signs and an exchange, what shows it, and faults of those ahead."""
    faults = []
    for check, checked in checked_formats(format, n, most):
        shown, values = slips_and_swaps(sort, checked, n)
        if shown is not None:
            return (check, shown, tuple(faults))
        faults.append((check,) + values)
    return (None, None, tuple(faults))


def slips_and_swaps(sort, format, n):
    """The pair of tables that rule out n wrong signs and an exchange, and None; or None, and two values."""
    told = slips(sort, format)
    if told[0] == "slips" and told[1] <= n:
        return (None, told[2:4])
    kept = swaps(sort, format)
    if kept[0] == "swapped":
        return (None, kept[1:])
    return ((told[-1], kept[1]), None)


def is_least_check(sort, format, n, most, thing):
    """Whether a thing shows which check is the first one that shows n wrong signs and an exchange."""
    named = checked_formats(format, n, most)
    # What the first format asks for is asked for, whatever the thing is.
    machine_of(sort, named[0][1])

    def shows(checked, tables):
        return rules_out_all(machine_of(sort, checked), n, tables)

    def are_against(checked, one, other):
        many = differ_in(sort, checked, one, other)
        return many is not None and many <= n or are_swapped(sort, checked, one, other)
    return shows_first(named, thing, is_same_check, shows, are_against)


def is_same_check(check, thing):
    """Whether a thing is the same pair of integers."""
    return is_pair(thing) and is_integer(thing[0]) and is_integer(thing[1]) and thing == check


def rules_out_all(machine, n, thing):
    """Whether a thing is a pair of tables that rule out n wrong signs at most, and an exchange."""
    return is_pair(thing) and rules_out_fewer(machine, n + 1, thing[0]) and keeps_swaps_out(machine, thing[1])
