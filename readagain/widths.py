"""The least widths, and the least texts between, with which a format can be read back."""

from readagain.errors import BadThing
from readagain.judging import shows_first
from readagain.machines import machine_of
from readagain.signs import are_ascending, is_integer, is_number, is_text, is_tuple_of
from readagain.verdicts import are_twins, is_closed, verdict

GREATEST_WIDTH = 8
MOST_PADS = 3


def inner_formats(format):
    """The formats directly within one, in their order."""
    kind = format[0]
    if kind == "row":
        return [part[1] for part in format[1] if not isinstance(part, str)]
    if kind == "case":
        return list(format[1])
    if kind == "maybe" or kind == "many" or kind == "pad" or kind == "cut" or kind == "checked":
        return [format[-1]]
    return []


def with_inner(format, formats):
    """A format with others directly within it."""
    kind = format[0]
    if kind == "row":
        parts = []
        for part in format[1]:
            parts.append(part if isinstance(part, str) else (part[0], formats[part[0]]))
        return (kind, tuple(parts))
    if kind == "case":
        return (kind, tuple(formats))
    return format[:-1] + (formats[0],) if formats else format


def widths_of(format):
    """The widths of all pads in a format, a pad ahead of those within it."""
    found = [format[1]] if format[0] == "pad" else []
    for part in inner_formats(format):
        found.extend(widths_of(part))
    return tuple(found)


def with_widths(format, widths):
    """A format with other widths of its pads."""
    many = len(widths_of(format))
    if not is_tuple_of(widths, many, many) or not all(is_number(width, 0, GREATEST_WIDTH) for width in widths):
        raise BadThing(widths)
    return put_widths(format, widths, 0)[0]


def put_widths(format, widths, at):
    """The pair of a format with the widths from at on, and of the number behind the last one taken."""
    if format[0] == "pad":
        format = ("pad", widths[at]) + format[2:]
        at += 1
    parts = []
    for part in inner_formats(format):
        changed, at = put_widths(part, widths, at)
        parts.append(changed)
    return (with_inner(format, parts), at)


def widened(format, most):
    """The list of (widths, format with them) for all widths up to the most, by their sum.

    BadThing(most) also of a format that has no pad, or more than three.
    """
    pads = widths_of(format)
    if not is_number(most, 0, GREATEST_WIDTH) or not 1 <= len(pads) <= MOST_PADS:
        raise BadThing(most)
    rows = [()]
    for _ in pads:
        rows = [row + (width,) for row in rows for width in range(most + 1)]
    return [(widths, with_widths(format, widths)) for widths in sorted(rows, key=sum)]


def least_widths(sort, format, most):
    """The first widths with which a format can be read back, its verdict's pairs, and twins for those ahead."""
    return first_readable(sort, widened(format, most))


def are_least_widths(sort, format, most, thing):
    """Whether a thing shows which widths are the first ones with which a format can be read back."""
    return shows_first_readable(sort, widened(format, most), thing)


def separated(format, signs, most):
    """The list of (text, format with it as the text between) for all texts of some signs, shorter ones first."""
    if not is_text(signs, 0, 4) or not are_ascending(signs):
        raise BadThing(signs)
    if not is_number(most, 0, 2):
        raise BadThing(most)
    level = [""]
    texts = list(level)
    for _ in range(most):
        level = [text + sign for text in level for sign in signs]
        texts.extend(level)
    return [(text, with_text_between(format, text)) for text in texts]


def with_text_between(format, text):
    """A format of many with another text between, also within pads, cuts and check signs."""
    if format[0] == "many":
        return format[:3] + (text,) + format[4:]
    return with_inner(format, [with_text_between(part, text) for part in inner_formats(format)])


def least_between(sort, format, signs, most):
    """The first text between with which a format can be read back, the pairs, and twins for those ahead."""
    return first_readable(sort, separated(format, signs, most))


def is_least_between(sort, format, signs, most, thing):
    """Whether a thing shows which text between is the first one with which a format can be read back."""
    return shows_first_readable(sort, separated(format, signs, most), thing)


def first_readable(sort, named):
    """(name, pairs, twins) of the first of some named formats that can be read back."""
    twins = []
    for name, format in named:
        told = verdict(sort, format)
        if told[0] == "readable":
            return (name, told[1], tuple(twins))
        twins.append((name, told[1], told[2]))
    return (None, None, tuple(twins))


def shows_first_readable(sort, named, thing):
    """Whether a thing is such a triple that shows it."""
    # What the first format asks for is asked for, whatever the thing is.
    machine_of(sort, named[0][1])

    def shows(format, pairs):
        return is_closed(machine_of(sort, format), pairs)

    def are_against(format, one, other):
        return are_twins(sort, format, one, other)
    return shows_first(named, thing, is_same_name, shows, are_against)


def is_same_name(name, thing):
    """Whether a thing is the same text, or the same tuple of integers."""
    if isinstance(name, str):
        return thing == name
    return isinstance(thing, tuple) and all(is_integer(part) for part in thing) and thing == name
