"""Spellings and scores of values, and the values of these."""

from readagain.errors import BadThing
from readagain.formats import plain_format
from readagain.parsing import is_extra, parsed
from readagain.signs import (
    FIGURES, check_sign, figure_text, figures_of, fills_ahead, mark_ahead, shown_sign, split_power)
from readagain.sorts import is_value


def spelling(sort, format, value):
    """The marks that tell a value."""
    return marks_of(score(sort, format, value))


def unspelled(sort, format, marks):
    """The value of a spelling."""
    if not is_row_of_texts(marks):
        raise BadThing(marks)
    value = parsed(sort, format, marks)
    if not is_value(sort, value) or spelling(sort, format, value) != marks:
        raise BadThing(marks)
    return value


def value_of(sort, format, items):
    """The value of a score."""
    if not is_row_of_texts(items):
        raise BadThing(items)
    try:
        value = unspelled(sort, format, marks_of(items))
    except BadThing:
        raise BadThing(items) from None
    if score(sort, format, value) != items:
        raise BadThing(items)
    return value


def is_row_of_texts(thing):
    """Whether a thing is a tuple of texts."""
    return isinstance(thing, tuple) and all(isinstance(item, str) for item in thing)


def is_mark(item):
    """Whether an item is a mark, not a sign."""
    return isinstance(item, str) and len(item) >= 2


def text_of(items):
    """The signs among items, put together."""
    return "".join([item for item in items if not is_mark(item)])


def marks_of(items):
    """The marks among items, but for the extra ones."""
    return tuple([item for item in items if is_mark(item) and not is_extra(item)])


def score(sort, format, value):
    """The marks of a value and, between them, the signs that are written."""
    return tuple(score_items(sort, format, value))


def score_items(sort, format, value):
    """The score as a list."""
    scorer = SCORERS[format[0]]
    return scorer(sort, format, value)


def sign_mark(value):
    """The mark of an integer's sign."""
    return "minus" if value < 0 else "plus"


def score_figures(_, format, value):
    """An integer in figures."""
    base, sign, least, group, mark, ahead = format[1:]
    figures = figures_of(abs(value), base)
    noughts = max(0, least - len(figures))
    total = noughts + len(figures)
    items = [sign_mark(value)]
    if least > 1:
        items.append(f"zeros {noughts}")
    if group > 0:
        items.append(f"first {(total - 1) % group + 1}")
    items.extend(shown_sign(value, sign) + ahead)
    for at in range(noughts):
        items.extend(mark_ahead(at, total, group, mark) + "0")
    for at, figure in enumerate(figures):
        items.append(f"figure {FIGURES[figure]}")
        items.extend(mark_ahead(noughts + at, total, group, mark) + FIGURES[figure])
    items.append("stop")
    return items


def score_powers(_, format, value):
    """An integer as a multiple of a power."""
    base, sign = format[1:]
    number, power = split_power(abs(value), base)
    items = [sign_mark(value), f"power {power}"]
    items.extend(shown_sign(value, sign))
    for figure in figures_of(number, base):
        items.append(f"figure {FIGURES[figure]}")
        items.append(FIGURES[figure])
    items.append("stop")
    if power > 0:
        items.extend("e" + figure_text(power, 10))
    return items


def score_word(written):
    """A word, of pairs of its signs and what is written for them."""
    items = []
    for sign, text in written:
        items.append(f"letter {sign}")
        items.extend(text)
    items.append("stop")
    return items


def score_plain(_, format, value):
    """A word as it is."""
    return score_word([(sign, sign) for sign in value])


def score_spelled(_, format, value):
    """A word with texts for some of its signs."""
    texts = dict(format[1])
    return score_word([(sign, texts.get(sign, sign)) for sign in value])


def score_quoted(_, format, value):
    """A word between quotes."""
    quote, escape = format[1:]
    items = score_word([(sign, escape + sign if sign == quote or sign == escape else sign) for sign in value])
    return [quote] + items + [quote]


def score_names(_, format, value):
    """The text of a number."""
    return [f"name {value}"] + list(format[1][value])


def score_maybe(sort, format, value):
    """None, or some value."""
    if value is None:
        return ["none"] + list(format[1])
    return ["some"] + score_items(sort[1], format[2], value[1])


def score_row(sort, format, value):
    """Texts and values, one behind the other."""
    items = []
    for part in format[1]:
        if isinstance(part, str):
            items.extend(part)
        else:
            items.extend(score_items(sort[1][part[0]], part[1], value[part[0]]))
    return items


def score_many(sort, format, value):
    """Values between texts."""
    empty, opening, between, closing, within = format[1:]
    items = []
    for at, part in enumerate(value):
        items.append("more")
        items.extend(opening if at == 0 else between)
        items.extend(score_items(sort[1], within, part))
    items.append("stop")
    items.extend(empty if len(value) == 0 else closing)
    return items


def score_case(sort, format, value):
    """The value by the format with its number."""
    number, part = value
    return [f"case {number}"] + score_items(sort[1][number], format[1][number], part)


def score_pad(sort, format, value):
    """A text that is filled up."""
    width, fill, side, within = format[1:]
    items = score_items(sort, within, value)
    fills = max(0, width - len(text_of(items)))
    ahead = fills_ahead(fills, side)
    return [f"fills {fills}"] + [fill] * ahead + items + [fill] * (fills - ahead)


def score_cut(sort, format, value):
    """The score within, without the signs behind the first ones."""
    items = []
    many = 0
    for item in score_items(sort, format[2], value):
        if is_mark(item) or many < format[1]:
            items.append(item)
        if not is_mark(item):
            many += 1
    return items


def score_skip(sort, format, value):
    """The spelling by the plain format."""
    return list(spelling(sort, plain_format(sort), value))


def score_checked(sort, format, value):
    """The score within, and the check sign."""
    _, modulus, factor, within = format
    items = score_items(sort, within, value)
    return items + [check_sign(text_of(items), modulus, factor)]


SCORERS = {
    "figures": score_figures,
    "powers": score_powers,
    "plain": score_plain,
    "spelled": score_spelled,
    "quoted": score_quoted,
    "names": score_names,
    "maybe": score_maybe,
    "row": score_row,
    "many": score_many,
    "case": score_case,
    "pad": score_pad,
    "cut": score_cut,
    "skip": score_skip,
    "checked": score_checked,
}
