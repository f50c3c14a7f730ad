"""Formats told apart by the texts of a few values."""

from readagain.alike import check_spelled_alike, compared
from readagain.machines import machine_of
from readagain.signs import is_integer, is_pair
from readagain.sorts import is_value
from readagain.writing import write


def check_formats(sort, formats):
    """Raise BadPair unless all formats spell alike, then TooLarge if one has too many places."""
    for format in formats:
        check_spelled_alike(sort, formats[0], format)
    for format in formats:
        machine_of(sort, format)


def texts_of(sort, format, values):
    """The list of the texts of some values."""
    return [write(sort, format, value) for value in values]


def telling_values(sort, formats):
    """Values for which all formats that don't write alike write unlike texts, and the pairs of those that do."""
    check_formats(sort, formats)
    values = []
    # The values so far tell all leaders apart, so there is one at most that may write as the next format does.
    leaders = []
    leader_of = []
    for number, format in enumerate(formats):
        texts = texts_of(sort, format, values)
        like = [leader for leader in leaders if texts_of(sort, formats[leader], values) == texts]
        told = compared(sort, formats[like[0]], format) if like else None
        if told is not None and told[0] == "alike":
            leader_of.append(like[0])
            continue
        if told is not None:
            values.append(told[1])
        leaders.append(number)
        leader_of.append(number)
    return (tuple(values), like_pairs(leader_of))


def like_pairs(kinds):
    """The ascending tuple of the pairs of numbers, lesser ones first, of things of one kind."""
    many = len(kinds)
    return tuple([(one, other) for one in range(many) for other in range(one + 1, many) if kinds[one] == kinds[other]])


def tells_all(sort, formats, thing):
    """Whether a thing is a tuple of values that tell all formats apart but for the pairs that write alike."""
    check_formats(sort, formats)
    if not is_pair(thing) or not isinstance(thing[0], tuple) or not are_number_pairs(thing[1]):
        return False
    values, pairs = thing
    if not all(is_value(sort, value) for value in values):
        return False
    rows = [texts_of(sort, format, values) for format in formats]
    if pairs != like_pairs(rows):
        return False
    # What writes as the first format with such texts does writes as all others that do.
    for at, row in enumerate(rows):
        first = rows.index(row)
        if first < at and compared(sort, formats[first], formats[at])[0] == "unlike":
            return False
    return True


def are_number_pairs(thing):
    """Whether a thing is a tuple of pairs of integers."""
    if not isinstance(thing, tuple) or not all(is_pair(pair) for pair in thing):
        return False
    return all(is_integer(one) and is_integer(other) for one, other in thing)


def written_by(sort, formats, rows):
    """The numbers of the formats that write each value of some rows as its text."""
    values = [value for value, _ in rows]
    texts = [text for _, text in rows]
    return tuple([number for number, format in enumerate(formats) if texts_of(sort, format, values) == texts])
