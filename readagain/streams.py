"""Rows of texts, one behind the other, and how late their values are known."""

from readagain.emptiness import check_no_text_is_empty
from readagain.errors import BadFormat, BadText
from readagain.judging import is_count, is_place_pair, is_table
from readagain.machines import machine_of, place_from
from readagain.pairing import by_costs, either_way, end_of, is_end, pair_steps, pairs_apart, rows_to, starts_apart
from readagain.scores import is_row_of_texts, text_of, value_of
from readagain.signs import is_pair
from readagain.tracing import only_row
from readagain.walks import cheapest_ways, greatest_costs, joined_pair, ordered_keys, reached, ring_in
from readagain.writing import write


def written_row(sort, format, values):
    """The texts of values, one behind the other."""
    check_no_text_is_empty(sort, format)
    return "".join([write(sort, format, value) for value in values])


def row_machine(machine):
    """The machine with what may follow place 0 behind each end, too."""
    return tuple([machine[0] if row[0] == "end" else row for row in machine])


class RowPairs:
    """What follows pairs of places of two rows."""

    def __init__(self, machine):
        self.machine = machine
        self.row = row_machine(machine)

    def steps(self, pair):
        """What follows a pair."""
        return pair_steps(self.row, self.row, pair)

    def early_steps(self, pair):
        """What follows a pair as an early one."""
        return [] if is_end(self.machine, pair[0]) else self.steps(pair)

    def first_late(self):
        """The early pairs whose first place is an end."""
        early = reached(pairs_apart(self.machine), self.early_steps)
        return [pair for pair in early if is_end(self.machine, pair[0])]

    def late_edges(self):
        """The edges of all late pairs."""
        return reached(self.first_late(), self.steps)

    def staged_steps(self, key):
        """What follows a pair and whether it is a late one."""
        pair, is_late = key
        return [((behind, is_late or is_end(self.machine, behind[0])), items, signs)
                for behind, items, signs in self.steps(pair)]

    def rows_to_late(self, pair):
        """Two rows of items by which a late pair is come to."""
        starts = []
        for begun, way, signs in either_way(starts_apart(self.machine)):
            starts.append(((begun, is_end(self.machine, begun[0])), way, signs))
        return rows_to(self.machine, cheapest_ways(by_costs(starts), self.staged_steps), (pair, True))


def lookahead(sort, format):
    """Known, how many signs late, and a table, or endless, two fronts and two loops."""
    machine = machine_of(sort, format)
    check_no_text_is_empty(sort, format)
    pairs = RowPairs(machine)
    late = pairs.late_edges()
    order = ordered_keys(late)
    if len(order) < len(late):
        # There is a ring with signs: where a ring has marks alone, endless many values have one
        # text, and rows that begin with two of these go on alike for ever.
        back, loops = ring_in(late)
        return ("endless", pairs.rows_to_late(back), joined_pair(loops))
    table = greatest_costs(late, order)
    return ("known", max([table[pair] + 1 for pair in pairs.first_late()], default=0), table)


def shows_known(machine, n, thing):
    """Whether a thing shows that first values are known n signs late, at most."""
    pairs = RowPairs(machine)

    def is_key(part):
        return is_place_pair(machine, machine, part)
    if not is_count(n) or not is_table(thing, is_key, is_count):
        return False
    if not all(first in thing and thing[first] < n for first in pairs.first_late()):
        return False
    for pair, many in thing.items():
        for behind, _, signs in pairs.steps(pair):
            if behind not in thing or thing[behind] + signs > many:
                return False
    return True


def shows_endless(machine, fronts, loops):
    """Whether two rows go on alike for ever behind the first text of the one, which the other has not."""
    if not are_rows_of_items(fronts) or not are_rows_of_items(loops):
        return False
    row = row_machine(machine)
    for front, loop in zip(fronts, loops):
        place = place_from(row, 0, front)
        if place is None or place_from(row, place, loop) != place:
            return False
    if text_of(fronts[0]) != text_of(fronts[1]) or text_of(loops[0]) != text_of(loops[1]):
        return False
    return text_of(loops[0]) != "" and parts_from_first_score(machine, fronts[0], fronts[1])


def are_rows_of_items(thing):
    """Whether a thing is a pair of tuples of texts."""
    return is_pair(thing) and is_row_of_texts(thing[0]) and is_row_of_texts(thing[1])


def parts_from_first_score(machine, front, other):
    """Whether a front goes up to the end of its first score, and another one parts from this."""
    place = 0
    has_parted = False
    for at, item in enumerate(front):
        if is_end(machine, place):
            break
        has_parted = has_parted or at < len(other) and other[at] != item
        place = place_from(machine, place, (item,))
    return is_end(machine, place) and has_parted


class RowReader:
    """A reader of a row of texts that tells its values as soon as they are known.

    Where first values are known some signs late, one row of items at most leads to a place with
    the signs of a text. So each place at which the row may be has one tuple of the numbers of signs
    behind which texts end on the way to it.
    """

    def __init__(self, sort, format):
        self._kept_sort = sort
        self._kept_format = format
        self._machine = machine_of(sort, format)
        check_no_text_is_empty(sort, format)
        late = RowPairs(self._machine).late_edges()
        if len(ordered_keys(late)) < len(late):
            raise BadFormat(format)
        self._layer = row_layer(self._machine, {0: ()}, 0)
        self._left = ""
        self._values = []
        self.size = 0
        self.told = []

    def feed(self, piece):
        """Take one more piece of the row; a wrong one changes nothing."""
        layer = self._layer
        left = self._left
        values = []
        for at, sign in enumerate(piece):
            layer = row_layer_behind(self._machine, layer, sign, len(left) + 1)
            if not layer:
                raise BadText(self.size + at)
            left += sign
            known = known_end(layer)
            while known > 0:
                values.append(self.value_by(left[:known]))
                left = left[known:]
                layer = {place: tuple([end - known for end in ends[1:]]) for place, ends in layer.items()}
                known = known_end(layer)
        self._layer = layer
        self._left = left
        self._values.extend(values)
        self.size += len(piece)
        # A new list, so that nothing hangs on what becomes of one that was handed out.
        self.told = list(self._values)

    def value_by(self, text):
        """The value with a text."""
        return value_of(self._kept_sort, self._kept_format, only_row(self._machine, text))

    def can_end(self):
        """Whether what was fed is a row, or nothing."""
        return self.size == 0 or end_of(self._machine) in self._layer

    def rest(self):
        """The list of the values behind those told, if what was fed is a row, or nothing."""
        if not self.can_end():
            raise BadText(self.size)
        found = []
        begun = 0
        for end in self._layer.get(end_of(self._machine), ()):
            found.append(self.value_by(self._left[begun:end]))
            begun = end
        return found


def row_layer(machine, begun, size):
    """The places ahead of signs, and the end, to which marks lead from some places, behind an end from 0.

    begun and the layer are dicts of places to the numbers of signs behind which texts end.
    """
    layer = {}
    waiting = list(begun.items())
    while waiting:
        place, ends = waiting.pop()
        row = machine[place]
        if row[0] == "marks":
            waiting.extend([(behind, ends) for _, behind in row[1]])
        elif row[0] == "sign":
            layer[place] = ends
        else:
            layer[place] = ends + (size,)
            waiting.append((0, ends + (size,)))
    return layer


def row_layer_behind(machine, layer, sign, size):
    """The layer behind one more sign; an empty one if no row goes on so."""
    rows = [(machine[place], ends) for place, ends in layer.items()]
    begun = {row[2]: ends for row, ends in rows if row[0] == "sign" and row[1] == sign}
    return row_layer(machine, begun, size)


def known_end(layer):
    """Behind how many signs the first text ends, whatever comes; 0 if this can't be told yet."""
    told = [ends[0] if ends else 0 for ends in layer.values()]
    return told[0] if all(end == told[0] for end in told) else 0
