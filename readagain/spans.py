"""Parts of values, and the signs of a text that stand for them."""

from readagain.errors import BadThing
from readagain.reading import read
from readagain.signs import fills_ahead, is_number
from readagain.sorts import is_value
from readagain.writing import write


def part_at(sort, value, path):
    """The part of a value to which a path leads."""
    if not isinstance(path, tuple):
        raise BadThing(path)
    part = value
    for number in path:
        within = parts_within(sort, part)
        if not is_number(number, 0, len(within) - 1) or within[number] is None:
            raise BadThing(path)
        sort = within[number]
        part = part[number]
    return part


def parts_within(sort, value):
    """For each number the sort of what a value has with it; None where that is no part."""
    kind = sort[0]
    if kind == "row":
        return list(sort[1])
    if kind == "many":
        return [sort[1]] * len(value)
    if kind == "case":
        return [None, sort[1][value[0]]]
    if kind == "maybe" and value is not None:
        return [None, sort[1]]
    return []


def with_part(sort, value, path, part):
    """The value with another part."""
    part_at(sort, value, path)
    changed = put_part(value, path, part)
    if not is_value(sort, changed):
        raise BadThing(part)
    return changed


def put_part(value, path, part):
    """A value with another part, where a path leads to one."""
    if len(path) == 0:
        return part
    number = path[0]
    return value[:number] + (put_part(value[number], path[1:], part),) + value[number + 1:]


def replaced(sort, format, text, path, part):
    """The text of the value that is read, with another part."""
    value = read(sort, format, text)
    return write(sort, format, with_part(sort, value, path, part))


def spans(sort, format, value):
    """For each sign of the text the path of what it stands for, or None."""
    return tuple(spans_at(sort, format, value, ()))


def spans_at(sort, format, value, path):
    """The spans of a part to which a path leads, as a list."""
    kind = format[0]
    if kind == "row":
        return row_spans(sort, format, value, path)
    if kind == "many":
        return many_spans(sort, format, value, path)
    if kind == "case":
        number, part = value
        return spans_at(sort[1][number], format[1][number], part, path + (1,))
    if kind == "maybe" and value is not None:
        return spans_at(sort[1], format[2], value[1], path + (1,))
    if kind == "pad":
        return pad_spans(format, spans_at(sort, format[4], value, path))
    if kind == "cut":
        return spans_at(sort, format[2], value, path)[:format[1]]
    if kind == "checked":
        return spans_at(sort, format[3], value, path) + [None]
    return [path] * len(write(sort, format, value))


def row_spans(sort, format, value, path):
    """The spans of a row."""
    found = []
    for part in format[1]:
        if isinstance(part, str):
            found.extend([None] * len(part))
        else:
            number = part[0]
            found.extend(spans_at(sort[1][number], part[1], value[number], path + (number,)))
    return found


def many_spans(sort, format, value, path):
    """The spans of many."""
    empty, opening, between, closing, within = format[1:]
    if len(value) == 0:
        return [None] * len(empty)
    found = []
    for at, part in enumerate(value):
        found.extend([None] * len(opening if at == 0 else between))
        found.extend(spans_at(sort[1], within, part, path + (at,)))
    return found + [None] * len(closing)


def pad_spans(format, within):
    """The spans of a text that is filled up."""
    fills = max(0, format[1] - len(within))
    ahead = fills_ahead(fills, format[3])
    return [None] * ahead + within + [None] * (fills - ahead)
