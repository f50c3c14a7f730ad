"""Whether a format writes an empty text, told without a machine."""

from readagain.errors import BadFormat
from readagain.formats import formats_within


def check_no_text_is_empty(sort, format):
    """Raise BadFormat if some value has an empty text."""
    if can_be_empty(sort, format):
        raise BadFormat(format)


def can_be_empty(sort, format):
    """Whether some value has an empty text."""
    kind = format[0]
    if kind == "plain" or kind == "spelled":
        return sort[2] == 0
    if kind == "names":
        return "" in format[1]
    if kind == "many":
        return can_many_be_empty(sort, format)
    within = [can_be_empty(part_sort, part) for part_sort, part in formats_within(sort, format)]
    if kind == "maybe":
        return format[1] == "" or within[0]
    if kind == "row":
        return len(format[1]) == len(within) and all(within)
    if kind == "case":
        return any(within)
    if kind == "pad":
        return format[1] == 0 and within[0]
    if kind == "cut":
        return format[1] == 0 or within[0]
    return kind == "skip"


def can_many_be_empty(sort, format):
    """Whether some tuple of values has an empty text."""
    _, part_sort, least, most = sort
    empty, opening, between, closing, within = format[1:]
    if least == 0 and empty == "":
        return True
    if most == 0 or opening + closing != "" or least > 1 and between != "":
        return False
    return can_be_empty(part_sort, within)
