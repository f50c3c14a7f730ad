"""Whether two formats of a sort write the same for every value."""

from readagain.errors import BadPair
from readagain.formats import formats_within, plain_format
from readagain.judging import is_place_pair, is_table
from readagain.linking import links, starts
from readagain.machines import machine_of
from readagain.pairing import is_end
from readagain.scores import unspelled
from readagain.signs import is_integer, is_pair
from readagain.sorts import is_value
from readagain.walks import items_on, items_to, reached, ways_on
from readagain.writing import write

NO_SURPLUS = (0, "")


def do_spell_alike(sort, one, other):
    """Whether each integer that a sort tells of has figures, or powers, of one base by both formats."""
    one = spelling_format(sort, one)
    other = spelling_format(sort, other)
    if sort[0] == "int":
        return one[:2] == other[:2]
    pairs = list(zip(formats_within(sort, one), formats_within(sort, other)))
    return all(do_spell_alike(part_sort, part, other_part) for (part_sort, part), (_, other_part) in pairs)


def spelling_format(sort, format):
    """The format within that tells how values are spelled."""
    while format[0] == "pad" or format[0] == "cut" or format[0] == "checked":
        format = format[-1]
    return plain_format(sort) if format[0] == "skip" else format


def check_spelled_alike(sort, one, other):
    """Raise BadPair unless two formats spell alike."""
    if not do_spell_alike(sort, one, other):
        raise BadPair("an integer has other figures by the one than by the other")


def left_over(surplus, text, other_text):
    """The surplus behind a surplus and two texts; None if what is written is unlike."""
    one = surplus[1] + text if surplus[0] == 1 else text
    other = surplus[1] + other_text if surplus[0] == 2 else other_text
    if one == other:
        return NO_SURPLUS
    if one.startswith(other):
        return (1, one[len(other):])
    return (2, other[len(one):]) if other.startswith(one) else None


def compared(sort, one, other):
    """Alike and the surpluses of all pairs of links, or unlike and a value."""
    check_spelled_alike(sort, one, other)
    comparison = Comparison(machine_of(sort, one), machine_of(sort, other))
    rows = comparison.rows_apart()
    if rows is None:
        table = comparison.surpluses
        return ("alike", {pair: table[pair] for pair in sorted(table)})
    values = [unspelled(sort, one, row) for row in rows]
    return ("unlike", [value for value in values if shows_unlike(sort, one, other, value)][0])


class Comparison:
    """Two machines gone along together by their links, as long as each pair has one surplus."""

    def __init__(self, machine, other):
        self.machine = machine
        self.other = other
        self.links = links(machine, other)
        self.surpluses = {}
        self.ways = {}

    def rows_apart(self):
        """None if each pair has one surplus, two ends none; else rows of marks, one of an unlike value."""
        waiting = []
        for text, other_text, pair in starts(self.machine, self.other):
            waiting.append((pair, left_over(NO_SURPLUS, text, other_text), None))
        while waiting:
            pair, surplus, way = waiting.pop()
            if pair in self.surpluses and self.surpluses[pair] == surplus:
                continue
            if pair in self.surpluses or not self.can_be(pair, surplus):
                return self.rows_by(pair, way)
            self.surpluses[pair] = surplus
            self.ways[pair] = way
            for mark, text, other_text, behind in self.links[pair]:
                waiting.append((behind, left_over(surplus, text, other_text), (pair, mark)))
        return None

    def are_ends(self, pair):
        """Whether a pair is one of two ends."""
        return is_end(self.machine, pair[0]) and is_end(self.other, pair[1])

    def can_be(self, pair, surplus):
        """Whether texts with this surplus at a pair can be going on to one text."""
        return surplus == NO_SURPLUS or surplus is not None and not self.are_ends(pair)

    def rows_by(self, pair, way):
        """The marks of values: by a way to a pair, and by the one that was gone before, if there is one."""
        def steps_from(key):
            return [(link[3], link[0], 0) for link in self.links[key]]
        edges = reached([pair], steps_from)
        rest = items_on(ways_on(edges, [end for end in edges if self.are_ends(end)])[0], pair)
        ways = [way, self.ways[pair]] if pair in self.ways else [way]
        return [tuple(self.marks_along(gone) + rest) for gone in ways]

    def marks_along(self, way):
        """The marks up to a pair to which a way leads."""
        if way is None:
            return []
        pair, mark = way
        return items_to(self.ways, pair) + [mark]


def shows_alike(sort, one, other, thing):
    """Whether a thing tells for each pair of links the surplus that all ways to it leave."""
    check_spelled_alike(sort, one, other)
    machine = machine_of(sort, one)
    other_machine = machine_of(sort, other)
    told = links(machine, other_machine)

    def is_key(pair):
        return is_place_pair(machine, other_machine, pair) and pair in told
    if not is_table(thing, is_key, is_surplus) or len(thing) != len(told):
        return False
    for text, other_text, pair in starts(machine, other_machine):
        if left_over(NO_SURPLUS, text, other_text) != thing[pair]:
            return False
    for pair, row in told.items():
        if is_end(machine, pair[0]) and is_end(other_machine, pair[1]) and thing[pair] != NO_SURPLUS:
            return False
        if not all(left_over(thing[pair], link[1], link[2]) == thing[link[3]] for link in row):
            return False
    return True


def is_surplus(thing):
    """Whether a thing has the kind of a surplus: a number and a text."""
    return is_pair(thing) and is_integer(thing[0]) and isinstance(thing[1], str)


def shows_unlike(sort, one, other, thing):
    """Whether a thing is a value for which the formats write unlike texts."""
    check_spelled_alike(sort, one, other)
    return is_value(sort, thing) and write(sort, one, thing) != write(sort, other, thing)
