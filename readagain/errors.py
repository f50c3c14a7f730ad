"""The errors that the package raises."""


class FormatError(Exception):
    """What all errors of the package stand under."""


class BadSort(FormatError):
    """A thing is no sort."""

    def __init__(self, thing):
        self.thing = thing


class BadFormat(FormatError):
    """A thing is no format of a sort, or none that can be asked this."""

    def __init__(self, thing):
        self.thing = thing


class BadThing(FormatError):
    """A thing is not what it has to be."""

    def __init__(self, thing):
        self.thing = thing


class BadText(FormatError):
    """A text is none that is written; place is the number of the first wrong sign."""

    def __init__(self, place):
        self.place = place


class ManyValues(FormatError):
    """Several values have this text."""

    def __init__(self, text):
        self.text = text


class TooLarge(FormatError):
    """There are more than so many."""

    def __init__(self, most):
        self.most = most


class BadPair(FormatError):
    """Two formats don't spell alike."""

    def __init__(self, why):
        self.why = why


class BadSource(FormatError):
    """A text tells no sort, format or value; line and column of the first wrong piece."""

    def __init__(self, line, column):
        self.line = line
        self.column = column


class BadDeed(FormatError):
    """A deed can't be done."""

    def __init__(self, deed):
        self.deed = deed
