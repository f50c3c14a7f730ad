"""Values as texts that are the same whatever the format."""

from readagain.errors import BadSource
from readagain.pieces import FIGURES_OF_VALUES, Source, quoted
from readagain.signs import figure_text, is_number
from readagain.sorts import is_value


def value_text(sort, value):
    """A text that is read as a value."""
    kind = sort[0]
    if kind == "int" or kind == "one":
        return ("-" if value < 0 else "") + figure_text(abs(value), 10)
    if kind == "word":
        return quoted(value)
    if kind == "maybe":
        return "none" if value is None else "some " + value_text(sort[1], value[1])
    if kind == "case":
        return f"case {value[0]} " + value_text(sort[1][value[0]], value[1])
    if kind == "many":
        return "many (" + ", ".join([value_text(sort[1], part) for part in value]) + ")"
    return "(" + ", ".join([value_text(part, value[at]) for at, part in enumerate(sort[1])]) + ")"


def read_value(sort, text):
    """The value that a text tells."""
    return only_value(sort, Source(text, 1, FIGURES_OF_VALUES))


def read_values(sort, text):
    """The tuple of the values that the lines of a text tell, but for those without pieces."""
    if not isinstance(text, str):
        raise BadSource(0, 0)
    values = []
    for at, row in enumerate(text.split("\n")):
        source = Source(row, at + 1, FIGURES_OF_VALUES)
        if not source.is_over():
            values.append(only_value(sort, source))
    return tuple(values)


def only_value(sort, source):
    """The value that all pieces tell."""
    value = value_from(sort, source)
    source.finish()
    return value


def value_from(sort, source):
    """The value that the next pieces tell."""
    reader = READERS[sort[0]]
    return reader(sort, source)


def take_value(sort, source, kind):
    """What the next piece tells, which must be a value of the sort."""
    value = source.take(kind)
    if not is_value(sort, value):
        source.refuse(source.taken - 1)
    return value


def number_from(sort, source):
    """An integer."""
    return take_value(sort, source, "number")


def word_from(sort, source):
    """A word."""
    return take_value(sort, source, "text")


def maybe_from(sort, source):
    """None, or some value."""
    if source.take_one_of(("none", "some")) == "none":
        return None
    return ("some", value_from(sort[1], source))


def row_from(sort, source):
    """A value of each sort."""
    return values_between(sort[1], len(sort[1]), len(sort[1]), source)


def many_from(sort, source):
    """As many values as the sort allows."""
    source.take_one_of(("many",))
    return values_between((sort[1],), sort[2], sort[3], source)


def case_from(sort, source):
    """A number, and a value of the sort with it."""
    source.take_one_of(("case",))
    number = source.take("number")
    if not is_number(number, 0, len(sort[1]) - 1):
        source.refuse(source.taken - 1)
    return (number, value_from(sort[1][number], source))


def values_between(sorts, least, most, source):
    """The tuple of least to most values between brackets and commas, those behind all sorts being of the last one."""
    source.take_point("(")
    values = []
    while len(values) != most and not (len(values) >= least and source.is_point(")")):
        if values:
            source.take_point(",")
        values.append(value_from(sorts[min(len(values), len(sorts) - 1)], source))
    source.take_point(")")
    return tuple(values)


READERS = {
    "int": number_from,
    "word": word_from,
    "one": number_from,
    "maybe": maybe_from,
    "row": row_from,
    "many": many_from,
    "case": case_from,
}
