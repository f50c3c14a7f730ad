"""Shelves: values kept by names, with a log of all that was done."""

from readagain.errors import BadDeed, BadFormat, BadThing
from readagain.logs import Log
from readagain.signs import is_number
from readagain.sorts import is_value
from readagain.spans import with_part
from readagain.writing import write

NAMES = ("word", "abcdefgh", 1, None)
PLAIN = ("plain",)
PUT = 0
TAKE = 1
MOVE = 2
UNDO = 3
REDO = 4


def deeds_sort(sort):
    """The sort of the deeds of a shelf with values of a sort."""
    rows = ((NAMES, sort), (NAMES,), (NAMES, NAMES), (), ())
    return ("case", tuple([("row", row) for row in rows]))


def deeds_format(format):
    """The format of the deeds of a shelf whose values have a format."""
    rows = (
        ("+", (0, PLAIN), "=", (1, format), ";"), ("-", (0, PLAIN), ";"), (">", (0, PLAIN), ":", (1, PLAIN), ";"),
        ("<;",), ("!;",))
    return ("case", tuple([("row", row) for row in rows]))


class Shelf:
    """Values kept by names, and the log of the deeds that led to them."""

    def __init__(self, sort, format, text):
        try:
            told = Log(deeds_sort(sort), deeds_format(format), text)
        except BadFormat:
            raise BadFormat(format) from None
        self._kept_sort = sort
        self._kept_format = format
        self._values = {}
        # What the values were ahead of each deed that can be undone, and of each undoing.
        self._past = []
        self._undone = []
        self._deeds = told
        done = 0
        for deed in told.entries:
            if not self.can(deed):
                break
            self.change(deed)
            done += 1
        told.back_to(done)

    def can(self, deed):
        """Whether a thing is a deed that can be done."""
        if not is_value(deeds_sort(self._kept_sort), deed):
            return False
        kind, told = deed
        if kind == PUT:
            return True
        if kind == UNDO:
            return len(self._past) > 0
        if kind == REDO:
            return len(self._undone) > 0
        return told[0] in self._values and (kind != MOVE or told[1] not in self._values)

    def do(self, deed):
        """Do a deed."""
        if not self.can(deed):
            raise BadDeed(deed)
        self.change(deed)
        self._deeds.write(deed)

    def change(self, deed):
        """Change the values by a deed that can be done."""
        kind, told = deed
        if kind == UNDO:
            self._undone.append(self._values)
            self._values = self._past.pop()
            return
        self._past.append(self._values)
        if kind == REDO:
            self._values = self._undone.pop()
            return
        self._undone = []
        self._values = dict(self._values)
        if kind == PUT:
            self._values[told[0]] = told[1]
        elif kind == TAKE:
            del self._values[told[0]]
        else:
            self._values[told[1]] = self._values.pop(told[0])

    def log(self):
        """A new log of all deeds."""
        return self._deeds.torn(0)

    def names(self):
        """The ascending tuple of the names."""
        return tuple(sorted(self._values))

    def text_of(self, name):
        """The text of the value with a name."""
        return write(self._kept_sort, self._kept_format, self.value_of(name))

    def value_of(self, name):
        """The value with a name."""
        if not isinstance(name, str) or name not in self._values:
            raise BadThing(name)
        return self._values[name]

    def replace(self, name, path, part):
        """Put the value with a name with another part."""
        value = with_part(self._kept_sort, self.value_of(name), path, part)
        self.do((PUT, (name, value)))

    def names_of(self, value):
        """The ascending tuple of the names with a value."""
        if not is_value(self._kept_sort, value):
            return ()
        return tuple([name for name in self.names() if self._values[name] == value])

    def beginning_with(self, text):
        """The ascending tuple of the names with values whose texts begin with a text."""
        return tuple([name for name in self.names() if self.text_of(name).startswith(text)])

    def torn(self, n):
        """The shelf of the log without its last n signs."""
        text = self._deeds.text
        if not is_number(n, 0, len(text)):
            raise BadThing(n)
        return Shelf(self._kept_sort, self._kept_format, text[:len(text) - n])

    def at(self, n):
        """The shelf as it was behind the first n deeds."""
        if not is_number(n, 0, len(self._deeds)):
            raise BadThing(n)
        end = self._deeds.place_of(n - 1)[1] if n > 0 else 0
        return Shelf(self._kept_sort, self._kept_format, self._deeds.text[:end])

    def moved_to(self, format):
        """A shelf of another format for which all the same was done."""
        shelf = Shelf(self._kept_sort, format, "")
        for deed in list(self._deeds.entries):
            shelf.do(deed)
        return shelf
