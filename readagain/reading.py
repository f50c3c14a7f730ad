"""Values read back from texts."""

from readagain.errors import BadText, ManyValues, TooLarge
from readagain.machines import machine_of
from readagain.scores import value_of
from readagain.tracing import extended, first_layer, has_end, rows_of, signs_behind, track_of

MOST_VALUES = 1000


def read(sort, format, text):
    """The value with a text."""
    return value_read(sort, format, machine_of(sort, format), text)


def value_read(sort, format, machine, text):
    """The value with a text, by the machine of the format."""
    track = track_of(machine, text)
    if not has_end(machine, track[-1]):
        raise BadText(len(text))
    rows = rows_of(machine, track, text, 1)
    if rows is None or isinstance(rows, int):
        raise ManyValues(text)
    return value_of(sort, format, rows[0])


def values_of(sort, format, text):
    """The list of all values with a text, by their scores; None for endless many."""
    scanner = Scanner(sort, format)
    if not isinstance(text, str):
        return []
    try:
        scanner.feed(text)
    except BadText:
        return []
    return scanner.readings()


class Scanner:
    """A reader that is told a text piece by piece."""

    def __init__(self, sort, format):
        self._kept_sort = sort
        self._kept_format = format
        self._machine = machine_of(sort, format)
        self._track = [first_layer(self._machine)]
        self._text = ""
        self.size = 0

    def feed(self, piece):
        """Take one more piece of the text; a wrong one changes nothing."""
        layers = extended(self._machine, self._track[-1], piece)
        if len(layers) < len(piece):
            raise BadText(self.size + len(layers))
        self._track.extend(layers)
        self._text += piece
        self.size += len(piece)

    def can_end(self):
        """Whether what was fed is a text."""
        return has_end(self._machine, self._track[-1])

    def next_signs(self):
        """The ascending text of all signs with which the text may go on."""
        return signs_behind(self._machine, self._track[-1])

    def readings(self):
        """The list of all values with the text, by their scores; None for endless many."""
        rows = rows_of(self._machine, self._track, self._text, MOST_VALUES)
        if rows is None:
            return None
        if isinstance(rows, int):
            raise TooLarge(MOST_VALUES)
        return [value_of(self._kept_sort, self._kept_format, row) for row in rows]
