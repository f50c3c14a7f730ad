"""Values told by marks, not yet compared with the marks that the values really have."""

from readagain.errors import BadThing
from readagain.formats import plain_format
from readagain.signs import FIGURES

EXTRA_MARKS = ("zeros ", "first ", "fills ")


def is_extra(mark):
    """Whether a mark is one of those that are determined by value and format."""
    return any(mark.startswith(word) for word in EXTRA_MARKS)


def parsed(sort, format, marks):
    """A value that is the one of these marks if they are a spelling; else perhaps BadThing."""
    return parse(sort, format, marks, 0)[0]


def parse(sort, format, marks, at):
    """The pair of what the marks from at on tell, and of the number behind the last one taken."""
    parser = PARSERS[format[0]]
    return parser(sort, format, marks, at)


def mark_at(marks, at):
    """The mark with a number."""
    if at >= len(marks):
        raise BadThing(marks)
    return marks[at]


def sign_behind(word, marks, at):
    """The one sign that a mark has behind a word."""
    mark = mark_at(marks, at)
    if not mark.startswith(word) or len(mark) != len(word) + 1:
        raise BadThing(marks)
    return mark[len(word)]


def parse_number(marks, at, base):
    """Figures up to their stop."""
    number = 0
    while mark_at(marks, at) != "stop":
        figure = FIGURES.find(sign_behind("figure ", marks, at))
        if not 0 <= figure < base:
            raise BadThing(marks)
        number = number * base + figure
        at += 1
    return (number, at + 1)


def parse_sign(marks, at):
    """1 or -1."""
    mark = mark_at(marks, at)
    if mark != "minus" and mark != "plus":
        raise BadThing(marks)
    return -1 if mark == "minus" else 1


def parse_figures(_, format, marks, at):
    """An integer in figures."""
    sign = parse_sign(marks, at)
    number, at = parse_number(marks, at + 1, format[1])
    return (sign * number, at)


def parse_powers(sort, format, marks, at):
    """An integer as a multiple of a power."""
    sign = parse_sign(marks, at)
    worth = parse_power(marks, at + 1, format[1], max(abs(sort[1]), abs(sort[2])))
    number, at = parse_number(marks, at + 2, format[1])
    return (sign * number * worth, at)


def parse_power(marks, at, base, greatest):
    """What a power's mark is worth, at most the greatest."""
    mark = mark_at(marks, at)
    worth = 1
    power = 0
    while mark != f"power {power}":
        worth = worth * base
        power += 1
        if worth > greatest:
            raise BadThing(marks)
    return worth


def parse_word(_, format, marks, at):
    """A word."""
    letters = []
    while mark_at(marks, at) != "stop":
        letters.append(sign_behind("letter ", marks, at))
        at += 1
    return ("".join(letters), at + 1)


def parse_counted(word, many, marks, at):
    """A number less than many, behind a word."""
    mark = mark_at(marks, at)
    for number in range(many):
        if mark == f"{word} {number}":
            return number
    raise BadThing(marks)


def parse_names(sort, format, marks, at):
    """The number of a text."""
    return (parse_counted("name", sort[1], marks, at), at + 1)


def parse_maybe(sort, format, marks, at):
    """None, or some value."""
    mark = mark_at(marks, at)
    if mark == "none":
        return (None, at + 1)
    if mark != "some":
        raise BadThing(marks)
    value, at = parse(sort[1], format[2], marks, at + 1)
    return (("some", value), at)


def parse_row(sort, format, marks, at):
    """Values, one behind the other."""
    values = []
    for part in format[1]:
        if not isinstance(part, str):
            value, at = parse(sort[1][part[0]], part[1], marks, at)
            values.append(value)
    return (tuple(values), at)


def parse_many(sort, format, marks, at):
    """Values up to their stop."""
    values = []
    while mark_at(marks, at) != "stop":
        if marks[at] != "more":
            raise BadThing(marks)
        value, at = parse(sort[1], format[5], marks, at + 1)
        values.append(value)
    return (tuple(values), at + 1)


def parse_case(sort, format, marks, at):
    """A number, and a value by the format with it."""
    number = parse_counted("case", len(sort[1]), marks, at)
    value, at = parse(sort[1][number], format[1][number], marks, at + 1)
    return ((number, value), at)


def parse_within(sort, format, marks, at):
    """The value by the format within."""
    return parse(sort, format[-1], marks, at)


def parse_skip(sort, format, marks, at):
    """The value by the plain format."""
    return parse(sort, plain_format(sort), marks, at)


PARSERS = {
    "figures": parse_figures,
    "powers": parse_powers,
    "plain": parse_word,
    "spelled": parse_word,
    "quoted": parse_word,
    "names": parse_names,
    "maybe": parse_maybe,
    "row": parse_row,
    "many": parse_many,
    "case": parse_case,
    "pad": parse_within,
    "cut": parse_within,
    "skip": parse_skip,
    "checked": parse_within,
}
