"""What is told of the texts of all values together, where there are finitely many."""

from math import gcd

from readagain.errors import BadThing
from readagain.machines import machine_of
from readagain.pairing import place_steps
from readagain.sorts import how_many_values
from readagain.walks import ordered_keys


def finite_machine(sort, format):
    """The machine of a format of a sort with finitely many values, so it has no rings; BadThing for other sorts."""
    if how_many_values(sort) is None:
        raise BadThing(sort)
    return machine_of(sort, format)


def machine_edges(machine):
    """The edges of all places."""
    return {place: place_steps(machine, place) for place in range(len(machine))}


def how_long(sort, format):
    """The dict, ascending, of the lengths of texts to how many values have such."""
    edges = machine_edges(finite_machine(sort, format))
    counts = {}
    for place in ordered_keys(edges):
        found = {} if edges[place] else {0: 1}
        for behind, _, added in edges[place]:
            for length, many in counts[behind].items():
                found[length + added] = found.get(length + added, 0) + many
        counts[place] = found
    told = counts[0]
    return {signs: told[signs] for signs in sorted(told)}


def how_often(sort, format):
    """The dict, ascending, of signs to how often each stands in the texts of all values together."""
    machine = finite_machine(sort, format)
    edges = machine_edges(machine)
    order = ordered_keys(edges)
    ways_on = {}
    for place in order:
        ways_on[place] = sum([ways_on[step[0]] for step in edges[place]]) if edges[place] else 1
    ways_to = {0: 1}
    totals = {}
    for place in reversed(order):
        for behind, items, signs in edges[place]:
            ways_to[behind] = ways_to.get(behind, 0) + ways_to[place]
            if signs > 0:
                totals[items[0]] = totals.get(items[0], 0) + ways_to[place] * ways_on[place]
    return {told: totals[told] for told in sorted(totals)}


def all_signs(sort, format):
    """How many signs the texts of all values have together."""
    return sum(how_often(sort, format).values())


def mean_length(sort, format):
    """How many signs a text has in the mean: (a, b), in lowest terms."""
    total = all_signs(sort, format)
    many = how_many_values(sort)
    common = gcd(total, many)
    return (total // common, many // common)


def shortest_form(sort, formats):
    """The number of the first format whose texts of all values have the fewest signs together."""
    totals = [all_signs(sort, format) for format in formats]
    return totals.index(min(totals))
