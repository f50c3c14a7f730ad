"""Values written by formats."""

from readagain.signs import (
    FIGURES, check_sign, figure_text, figures_of, fills_ahead, mark_ahead, shown_sign, split_power)


def write(sort, format, value):
    """The text of a value."""
    writer = WRITERS[format[0]]
    return writer(sort, format, value)


def write_figures(_, format, value):
    """An integer in figures."""
    base, sign, least, group, mark, ahead = format[1:]
    figures = figures_of(abs(value), base)
    figures = [0] * max(0, least - len(figures)) + figures
    total = len(figures)
    written = [mark_ahead(at, total, group, mark) + FIGURES[figure] for at, figure in enumerate(figures)]
    return shown_sign(value, sign) + ahead + "".join(written)


def write_powers(_, format, value):
    """An integer as a multiple of a power."""
    base, sign = format[1:]
    number, power = split_power(abs(value), base)
    behind = "e" + figure_text(power, 10) if power > 0 else ""
    return shown_sign(value, sign) + figure_text(number, base) + behind


def write_plain(_, format, value):
    """A word as it is."""
    return value


def write_spelled(_, format, value):
    """A word with texts for some of its signs."""
    texts = dict(format[1])
    return "".join([texts.get(sign, sign) for sign in value])


def write_quoted(_, format, value):
    """A word between quotes."""
    quote, escape = format[1:]
    written = [escape + sign if sign == quote or sign == escape else sign for sign in value]
    return quote + "".join(written) + quote


def write_names(_, format, value):
    """The text of a number."""
    return format[1][value]


def write_maybe(sort, format, value):
    """None, or some value."""
    if value is None:
        return format[1]
    return write(sort[1], format[2], value[1])


def write_row(sort, format, value):
    """Texts and values, one behind the other."""
    texts = []
    for part in format[1]:
        if isinstance(part, str):
            texts.append(part)
        else:
            texts.append(write(sort[1][part[0]], part[1], value[part[0]]))
    return "".join(texts)


def write_many(sort, format, value):
    """Values between texts."""
    empty, opening, between, closing, within = format[1:]
    if len(value) == 0:
        return empty
    texts = [write(sort[1], within, part) for part in value]
    return opening + between.join(texts) + closing


def write_case(sort, format, value):
    """The value by the format with its number."""
    number, part = value
    return write(sort[1][number], format[1][number], part)


def write_pad(sort, format, value):
    """A text that is filled up."""
    width, fill, side, within = format[1:]
    text = write(sort, within, value)
    fills = max(0, width - len(text))
    ahead = fills_ahead(fills, side)
    return fill * ahead + text + fill * (fills - ahead)


def write_cut(sort, format, value):
    """The first signs of a text."""
    return write(sort, format[2], value)[:format[1]]


def write_skip(_, format, value):
    """Nothing."""
    return ""


def write_checked(sort, format, value):
    """A text with its check sign."""
    _, modulus, factor, within = format
    text = write(sort, within, value)
    return text + check_sign(text, modulus, factor)


WRITERS = {
    "figures": write_figures,
    "powers": write_powers,
    "plain": write_plain,
    "spelled": write_spelled,
    "quoted": write_quoted,
    "names": write_names,
    "maybe": write_maybe,
    "row": write_row,
    "many": write_many,
    "case": write_case,
    "pad": write_pad,
    "cut": write_cut,
    "skip": write_skip,
    "checked": write_checked,
}
