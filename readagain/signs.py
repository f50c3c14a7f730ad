"""Signs, figures, and what counts as an integer or a text."""

SIGNS = " !\"#$&'()*+,-./0123456789:;<=>?@ABCDEFGHIJKLMNOPQRSTUVWXYZ[\\]^_`abcdefghijklmnopqrstuvwxyz{|}~"
FIGURES = "0123456789abcdef"


def is_integer(thing):
    """Whether a thing is an int that is no bool."""
    return isinstance(thing, int) and not isinstance(thing, bool)


def is_number(thing, least, most):
    """Whether a thing is an integer from least to most (None: without a bound)."""
    return is_integer(thing) and thing >= least and (most is None or thing <= most)


def is_text(thing, least, most):
    """Whether a thing is a text of least to most signs."""
    if not isinstance(thing, str) or not least <= len(thing) <= most:
        return False
    return all(sign in SIGNS for sign in thing)


def is_sign(thing):
    """Whether a thing is a text of one sign."""
    return is_text(thing, 1, 1)


def is_tuple_of(thing, least, most):
    """Whether a thing is a tuple of least to most things."""
    return isinstance(thing, tuple) and least <= len(thing) <= most


def is_pair(thing):
    """Whether a thing is a tuple of two things."""
    return is_tuple_of(thing, 2, 2)


def are_ascending(signs):
    """Whether each sign is greater than the one ahead of it."""
    return all(signs[at - 1] < signs[at] for at in range(1, len(signs)))


def figures_of(number, base):
    """The figures of a number from 0 on, as numbers, none ahead that is needless."""
    figures = [number % base]
    while number >= base:
        number //= base
        figures.append(number % base)
    figures.reverse()
    return figures


def figure_text(number, base):
    """The figures of a number from 0 on, as a text."""
    return "".join([FIGURES[figure] for figure in figures_of(number, base)])


def split_power(number, base):
    """(m, k): the number is m * base ** k, m no multiple of the base; (0, 0) for 0."""
    power = 0
    while number > 0 and number % base == 0:
        number //= base
        power += 1
    return (number, power)


def shown_sign(number, sign):
    """What is written for the sign of an integer."""
    if number < 0:
        return "-"
    return "" if sign == "-" else sign


def mark_ahead(at, total, group, mark):
    """What is written ahead of figure at of so many in all: the group's mark, or nothing."""
    if group > 0 and at > 0 and (total - at) % group == 0:
        return mark
    return ""


def fills_ahead(many, side):
    """How many of the fills stand ahead of what is filled up."""
    if side == "^":
        return many // 2
    return many if side == ">" else 0


def check_number(sign):
    """What a sign counts for a check sign."""
    if sign in FIGURES:
        return FIGURES.index(sign)
    return SIGNS.index(sign)


def check_sign(text, modulus, factor):
    """The check sign behind a text."""
    total = 0
    power = 1
    for sign in text:
        total = (total + check_number(sign) * power) % modulus
        power = power * factor % modulus
    return FIGURES[total]
