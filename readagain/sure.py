"""What is sure of all values whose texts begin with a text, and what is written for them by another format."""

from readagain.alike import check_spelled_alike, spelling_format
from readagain.errors import BadText, BadThing
from readagain.formats import formats_within
from readagain.machines import machine_of
from readagain.pairing import is_end, items_behind
from readagain.parsing import is_extra, mark_at, parse, parse_counted
from readagain.reading import value_read
from readagain.scores import is_mark
from readagain.tracing import extended, first_layer, track_of, useful_edges
from readagain.walks import reached, ways_on
from readagain.writing import write

FIRST_KEY = (0, 0)
SILENT = ""


class Beginning:
    """The scores whose texts begin with a text, by keys (signs of the text behind it, place).

    Behind the whole text all that can follow may follow.
    """

    def __init__(self, machine, text):
        track = track_of(machine, text)
        self.machine = machine
        self.size = len(text)
        self.useful = useful_edges(machine, track, text, track[-1])

    def steps(self, key):
        """The pairs of a key behind and the item that leads there."""
        signs, place = key
        if signs < self.size:
            return self.useful[key]
        return [((signs, behind), item) for item, behind in items_behind(self.machine[place])]

    def mark_steps(self, key):
        """The pairs of a key behind and the mark that leads there, silent for signs and extra marks."""
        return [(behind, item if is_told(item) else SILENT) for behind, item in self.steps(key)]


def is_told(item):
    """Whether an item is a mark of a spelling."""
    return is_mark(item) and not is_extra(item)


def common_items(first, steps_from):
    """The longest list of items with which all rows begin that lead from a key to where nothing follows.

    steps_from tells of a key the list of (key behind, item, perhaps a silent one).
    """
    found = []
    behind = items_next([first], steps_from)
    while len(behind) == 1 and SILENT not in behind:
        item, keys = list(behind.items())[0]
        found.append(item)
        behind = items_next(keys, steps_from)
    return found


def items_next(keys, steps_from):
    """The dict of the items that may come next to the keys behind them; the silent one where nothing follows."""
    found = {}
    seen = {}
    waiting = list(keys)
    while waiting:
        key = waiting.pop()
        if key in seen:
            continue
        seen[key] = True
        steps = steps_from(key)
        if not steps:
            found[SILENT] = []
        for behind, item in steps:
            if item == SILENT:
                waiting.append(behind)
            else:
                found.setdefault(item, []).append(behind)
    return found


def sure_marks(sort, format, text):
    """The longest row of marks with which the spellings of all values begin whose texts begin so."""
    return marks_known(machine_of(sort, format), text)


def marks_known(machine, text):
    """The sure marks, by the machine of the format."""
    beginning = Beginning(machine, text)
    return tuple(common_items(FIRST_KEY, beginning.mark_steps))


def sure_parts(sort, format, text):
    """The paths and parts that all values have whose texts begin so."""
    marks = sure_marks(sort, format, text)
    found = []
    try:
        add_parts(sort, format, marks, 0, (), found)
    except BadThing:
        # The marks are over within a part: so this one, and those behind it, aren't sure.
        return tuple(found)
    return tuple(found)


def add_parts(sort, format, marks, at, path, found):
    """Put the parts that the marks from at on tell to those found; the number behind the last mark taken."""
    format = spelling_format(sort, format)
    kind = sort[0]
    if kind == "int" or kind == "word" or kind == "one":
        value, at = parse(sort, format, marks, at)
        found.append((path, value))
        return at
    if kind == "row":
        for number, (part_sort, part) in enumerate(formats_within(sort, format)):
            at = add_parts(part_sort, part, marks, at, path + (number,), found)
        return at
    if kind == "many":
        return add_parts_of_many(sort, format, marks, at, path, found)
    if kind == "case":
        number = parse_counted("case", len(sort[1]), marks, at)
        return add_parts(sort[1][number], format[1][number], marks, at + 1, path + (1,), found)
    if mark_at(marks, at) == "none":
        found.append((path, None))
        return at + 1
    return add_parts(sort[1], format[2], marks, at + 1, path + (1,), found)


def add_parts_of_many(sort, format, marks, at, path, found):
    """Put the parts of many to those found."""
    number = 0
    while mark_at(marks, at) == "more":
        at = add_parts(sort[1], format[5], marks, at + 1, path + (number,), found)
        number += 1
    return at + 1


def sure_text(sort, format, other, text):
    """The longest text with which the other format's texts of all values begin whose texts begin so."""
    check_spelled_alike(sort, format, other)
    return text_known(machine_of(sort, format), machine_of(sort, other), text)


def text_known(machine, other, text):
    """The sure text, by the machines of both formats."""
    beginning = Beginning(machine, text)

    def steps_from(node):
        return node_steps(beginning, other, node)
    edges = reached([(FIRST_KEY, 0)], steps_from)
    goals = [(key, place) for key, place in edges if is_end(machine, key[1]) and is_end(other, place)]
    useful = ways_on(edges, goals)[1]

    def useful_steps(node):
        return [step[:2] for step in edges[node] if step[0] in useful]
    return "".join(common_items((FIRST_KEY, 0), useful_steps))


def node_steps(beginning, other, node):
    """What follows a node (key, place of the other machine): a list of (node behind, sign of the other one, 0).

    The first score goes on to a halt ahead of the second one; then both take one mark.
    """
    key, place = node
    steps = beginning.steps(key)
    if steps and not is_told(steps[0][1]):
        return [((behind, place), SILENT, 0) for behind, _ in steps]
    row = other[place]
    if row[0] == "sign":
        return [((key, row[2]), row[1], 0)]
    other_marks = dict(items_behind(row))
    if not any(is_told(mark) for mark in other_marks):
        return [((key, behind), SILENT, 0) for behind in other_marks.values()]
    return [((behind, other_marks[mark]), SILENT, 0) for behind, mark in steps if mark in other_marks]


class Rewriter:
    """Texts of one format rewritten by another one, piece by piece, as far as they are sure."""

    def __init__(self, sort, format, other):
        check_spelled_alike(sort, format, other)
        self._kept_sort = sort
        self._kept_format = format
        self._kept_other = other
        self._machine = machine_of(sort, format)
        self._other_machine = machine_of(sort, other)
        self._layer = first_layer(self._machine)
        self._text = ""
        self.out = text_known(self._machine, self._other_machine, "")

    def feed(self, piece):
        """Take one more piece of the text, and tell what comes to the other one; a wrong piece changes nothing."""
        layers = extended(self._machine, self._layer, piece)
        if len(layers) < len(piece):
            raise BadText(len(self._text) + len(layers))
        many = len(self.out)
        self._layer = layers[-1] if layers else self._layer
        self._text += piece
        self.out = text_known(self._machine, self._other_machine, self._text)
        return self.out[many:]

    def end(self):
        """What is left of the other format's text of the value of what was fed."""
        value = value_read(self._kept_sort, self._kept_format, self._machine, self._text)
        return write(self._kept_sort, self._kept_other, value)[len(self.out):]


def rewritten(sort, format, other, text):
    """The other format's text of the value with a text."""
    check_spelled_alike(sort, format, other)
    machine = machine_of(sort, format)
    # It isn't gone along, but it must not be too large.
    machine_of(sort, other)
    return write(sort, other, value_read(sort, format, machine, text))
