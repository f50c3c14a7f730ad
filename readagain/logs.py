"""Logs: values whose texts stand one behind the other, and are the same ones wherever the log is torn."""

from readagain.alone import is_alone
from readagain.emptiness import check_no_text_is_empty
from readagain.errors import BadFormat, BadThing
from readagain.machines import machine_of
from readagain.scores import value_of
from readagain.signs import is_number
from readagain.sorts import is_value
from readagain.tracing import first_layer, has_end, layer_behind, only_row
from readagain.writing import write


def logged_machine(sort, format):
    """The machine of a format that can be logged; BadFormat of another one."""
    machine = machine_of(sort, format)
    check_no_text_is_empty(sort, format)
    if not is_alone(machine):
        raise BadFormat(format)
    return machine


def ends_in(machine, text):
    """The list of where each text ends that stands whole in a text, from its beginning on."""
    ends = []
    first = first_layer(machine)
    layer = first
    for at, sign in enumerate(text):
        layer = layer_behind(machine, layer, sign)
        if not layer:
            return ends
        if has_end(machine, layer):
            ends.append(at + 1)
            layer = first
    return ends


class Log:
    """The values whose texts stand one behind the other in a text, from its beginning on."""

    def __init__(self, sort, format, text):
        machine = logged_machine(sort, format)
        self._kept_sort = sort
        self._kept_format = format
        self._ends = [0] + ends_in(machine, text)
        texts = [text[begun:end] for begun, end in zip(self._ends, self._ends[1:])]
        self.entries = tuple([value_of(sort, format, only_row(machine, part)) for part in texts])
        self.text = text[:self._ends[-1]]
        self.loose = text[self._ends[-1]:]

    def __len__(self):
        """How many values the log has."""
        return len(self.entries)

    def write(self, value):
        """Put the text of a value behind those that are whole."""
        if not is_value(self._kept_sort, value):
            raise BadThing(value)
        self.entries += (value,)
        self.text += write(self._kept_sort, self._kept_format, value)
        self.loose = ""
        self._ends.append(len(self.text))

    def torn(self, n):
        """Another log, without the last n signs."""
        text = self.text + self.loose
        if not is_number(n, 0, len(text)):
            raise BadThing(n)
        return Log(self._kept_sort, self._kept_format, text[:len(text) - n])

    def back_to(self, n):
        """Keep only the first n values."""
        if not is_number(n, 0, len(self.entries)):
            raise BadThing(n)
        self.entries = self.entries[:n]
        self.text = self.text[:self._ends[n]]
        self.loose = ""
        self._ends = self._ends[:n + 1]

    def place_of(self, number):
        """Where the text of a value begins, and where it ends."""
        if not is_number(number, 0, len(self.entries) - 1):
            raise BadThing(number)
        return (self._ends[number], self._ends[number + 1])

    def rewritten(self, format):
        """A log of the same values by another format."""
        text = "".join([write(self._kept_sort, format, value) for value in self.entries])
        return Log(self._kept_sort, format, text)
