"""Values read back from texts."""

from readagain.errors import BadText, ManyValues, TooLarge
from readagain.machines import machine_of
from readagain.scores import value_of
from readagain.tracing import extended, first_layer, has_end, rows_of, signs_behind

MOST_VALUES = 1000


def read(sort, format, text):
    """The value with a text."""
    scanner = Scanner(sort, format)
    if not isinstance(text, str):
        raise BadText(0)
    scanner.feed(text)
    if not scanner.can_end():
        raise BadText(scanner.size)
    rows = scanner.rows(1)
    if rows is None or isinstance(rows, int):
        raise ManyValues(text)
    return value_of(sort, format, rows[0])


def values_of(sort, format, text):
    """The list of all values with a text, by their scores; None for endless many."""
    scanner = Scanner(sort, format)
    if not isinstance(text, str):
        return []
    try:
        scanner.feed(text)
    except BadText:
        return []
    return scanner.readings()


class Scanner:
    """A reader that is told a text piece by piece."""

    def __init__(self, sort, format):
        self._kept_sort = sort
        self._kept_format = format
        self._machine = machine_of(sort, format)
        self._track = [first_layer(self._machine)]
        self._text = ""
        self.size = 0

    def feed(self, piece):
        """Take one more piece of the text; a wrong one changes nothing."""
        layers = extended(self._machine, self._track[-1], piece)
        if len(layers) < len(piece):
            raise BadText(self.size + len(layers))
        self._track.extend(layers)
        self._text += piece
        self.size += len(piece)

    def can_end(self):
        """Whether what was fed is a text."""
        return has_end(self._machine, self._track[-1])

    def next_signs(self):
        """The ascending text of all signs with which the text may go on."""
        return signs_behind(self._machine, self._track[-1])

    def readings(self):
        """The list of all values with the text, by their scores; None for endless many."""
        rows = self.rows(MOST_VALUES)
        if rows is None:
            return None
        if isinstance(rows, int):
            raise TooLarge(MOST_VALUES)
        return [value_of(self._kept_sort, self._kept_format, row) for row in rows]

    def rows(self, most):
        """The scores with the text; None for endless many, a number for more than most."""
        return rows_of(self._machine, self._track, self._text, most)
