"""How many values have texts of some length, and which one has a number."""

from readagain.errors import BadFormat, BadThing
from readagain.machines import machine_of
from readagain.pairing import end_of, is_end, place_steps
from readagain.scores import is_mark, score, text_of, value_of
from readagain.signs import is_number
from readagain.tracing import first_layer, has_end, layer_of
from readagain.verdicts import is_readable
from readagain.walks import ordered_keys

LONGEST_COUNTED = 200
GREATEST_NUMBER = 1000


def readable_machine(sort, format):
    """The machine of a format that can be read back; BadFormat of another one."""
    machine = machine_of(sort, format)
    if not is_readable(machine):
        raise BadFormat(format)
    return machine


def lengths(sort, format):
    """The pair of the fewest and the greatest number of signs of a text, None for no greatest one."""
    return text_lengths(readable_machine(sort, format))


def text_lengths(machine):
    """The pair of the fewest and the greatest number of signs of a text, also where values have one text."""
    layer = first_layer(machine)
    fewest = None
    signs = 0
    while layer:
        if signs > len(machine):
            # So many signs are more than there are places: the text has gone round a ring.
            return (fewest, None)
        if fewest is None and has_end(machine, layer):
            fewest = signs
        rows = [machine[place] for place in layer]
        layer = layer_of(machine, [row[2] for row in rows if row[0] == "sign"])
        signs += 1
    return (fewest, signs - 1)


class Counts:
    """How many ways lead from each place to the end, with so many signs, one number after another.

    counts: the dict of the places from which ways with just so many signs lead to the end.
    """

    def __init__(self, machine):
        self.machine = machine
        edges = {}
        for place, row in enumerate(machine):
            edges[place] = place_steps(machine, place) if row[0] == "marks" else []
        self.ranks = {source: at for at, source in enumerate(ordered_keys(edges))}
        self.by_marks = [[] for _ in machine]
        self.by_sign = [[] for _ in machine]
        for place, row in enumerate(machine):
            for behind, _, signs in place_steps(machine, place):
                found = self.by_sign if signs == 1 else self.by_marks
                found[behind].append(place)
        self.counts = self.with_marks({end_of(machine): 1})

    def with_marks(self, counts):
        """Some counts, and those of all places from which marks lead there."""
        touched = {}
        waiting = list(counts)
        while waiting:
            place = waiting.pop()
            for source in self.by_marks[place]:
                if source not in touched:
                    touched[source] = True
                    waiting.append(source)
        for _, place in sorted([(self.ranks[come], come) for come in touched]):
            counts[place] = sum([counts.get(behind, 0) for _, behind in self.machine[place][1]])
        return counts

    def go_on(self):
        """Count the ways with one more sign."""
        found = {}
        for place, many in self.counts.items():
            for source in self.by_sign[place]:
                found[source] = many
        self.counts = self.with_marks(found)

    def at(self, place):
        """How many ways lead from a place to the end."""
        return self.counts.get(place, 0)


def how_many(sort, format, length):
    """How many values have a text of so many signs."""
    machine = readable_machine(sort, format)
    if not is_number(length, 0, LONGEST_COUNTED):
        raise BadThing(length)
    counts = Counts(machine)
    for _ in range(length):
        counts.go_on()
    return counts.at(0)


def number_of(sort, format, value):
    """How many values stand ahead of one: shorter texts first, then lesser scores."""
    machine = readable_machine(sort, format)
    items = score(sort, format, value)
    lesser = places_ahead(machine, items)
    counts = Counts(machine)
    total = 0
    for signs in range(len(text_of(items))):
        total += counts.at(0) + sum([counts.at(place) for place in lesser.get(signs, [])])
        counts.go_on()
    return total + sum([counts.at(place) for place in lesser.get(len(text_of(items)), [])])


def places_ahead(machine, items):
    """The dict of how many signs are left to the lists of the places behind lesser marks than a score's."""
    found = {}
    place = 0
    left = len(text_of(items))
    for item in items:
        row = machine[place]
        if is_mark(item):
            marks = [mark for mark, _ in row[1]]
            at = marks.index(item)
            found.setdefault(left, []).extend([behind for _, behind in row[1][:at]])
            place = row[1][at][1]
        else:
            place = row[2]
            left -= 1
    return found


def value_at(sort, format, number):
    """The value that has so many ahead of it."""
    machine = readable_machine(sort, format)
    if not is_number(number, 0, GREATEST_NUMBER):
        raise BadThing(number)
    greatest = text_lengths(machine)[1]
    counts = Counts(machine)
    levels = [counts.counts]
    left = number
    while left >= counts.at(0):
        left -= counts.at(0)
        if len(levels) - 1 == greatest:
            raise BadThing(number)
        counts.go_on()
        levels.append(counts.counts)
    return value_of(sort, format, row_with_number(machine, levels, left))


def row_with_number(machine, levels, number):
    """The score with a number among those with as many signs as there are levels behind the first one."""
    items = []
    place = 0
    signs = len(levels) - 1
    while not is_end(machine, place):
        for behind, row, used in place_steps(machine, place):
            many = levels[signs - used].get(behind, 0)
            if number < many:
                break
            number -= many
        items.extend(row)
        place = behind
        signs -= used
    return tuple(items)
