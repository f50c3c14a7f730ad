"""Formats of a sort."""

from readagain.errors import BadFormat
from readagain.signs import FIGURES, are_ascending, is_integer, is_number, is_pair, is_sign, is_text, is_tuple_of

DEEPEST_FORMAT = 7
MOST_FORMATS = 32
WRITTEN_SIGNS = ("-", "+", " ")
SIDES = ("<", ">", "^")
GROUPS = (0, 2, 3, 4)
SORT_OF = {
    "figures": "int",
    "powers": "int",
    "plain": "word",
    "spelled": "word",
    "quoted": "word",
    "names": "one",
    "maybe": "maybe",
    "row": "row",
    "many": "many",
    "case": "case",
}
LENGTHS = {
    "figures": 7,
    "powers": 3,
    "plain": 1,
    "spelled": 2,
    "quoted": 3,
    "names": 2,
    "maybe": 3,
    "row": 2,
    "many": 6,
    "case": 2,
    "pad": 5,
    "cut": 3,
    "skip": 1,
    "checked": 4,
}


def check_format(sort, thing):
    """Raise BadFormat unless a thing is a format of the sort."""
    if not is_format(sort, thing):
        raise BadFormat(thing)


def is_format(sort, thing):
    """Whether a thing is a format of the sort."""
    return 1 <= count_formats(sort, thing, DEEPEST_FORMAT) <= MOST_FORMATS


def count_formats(sort, thing, deep):
    """How many formats one of so many at most within one another has in all; 0 for none of the sort."""
    if deep == 0 or not has_form(sort, thing):
        return 0
    check = CHECKS[thing[0]]
    if not check(sort, thing):
        return 0
    total = 1
    for part_sort, part in formats_within(sort, thing):
        many = count_formats(part_sort, part, deep - 1)
        if many == 0:
            return 0
        total += many
    return total


def has_form(sort, thing):
    """Whether a thing is a tuple of the length of a kind of formats that there is of the sort."""
    if not isinstance(thing, tuple) or len(thing) == 0 or not isinstance(thing[0], str):
        return False
    kind = thing[0]
    return kind in LENGTHS and len(thing) == LENGTHS[kind] and SORT_OF.get(kind, sort[0]) == sort[0]


def formats_within(sort, thing):
    """The pairs of a sort and what stands for its format, directly within a checked format."""
    kind = thing[0]
    if kind == "row":
        return [(sort[1][part[0]], part[1]) for part in thing[1] if isinstance(part, tuple)]
    if kind == "case":
        return list(zip(sort[1], thing[1]))
    if kind == "maybe" or kind == "many":
        return [(sort[1], thing[-1])]
    if kind == "pad" or kind == "cut" or kind == "checked":
        return [(sort, thing[-1])]
    return []


def is_one_of(thing, texts):
    """Whether a thing is one of some texts."""
    return isinstance(thing, str) and thing in texts


def is_figures(_, thing):
    """Whether base, sign, least, group, mark and ahead are right."""
    base, sign, least, group, mark, ahead = thing[1:]
    if not is_number(base, 2, 16) or not is_one_of(sign, WRITTEN_SIGNS) or not is_number(least, 1, 12):
        return False
    if not is_integer(group) or group not in GROUPS or not is_text(ahead, 0, 4):
        return False
    if group == 0:
        return is_text(mark, 0, 0)
    return is_sign(mark) and mark not in FIGURES[:base]


def is_powers(sort, thing):
    """Whether base and sign are right, and the sort has both bounds."""
    if sort[1] is None or sort[2] is None:
        return False
    return is_number(thing[1], 2, 10) and is_one_of(thing[2], WRITTEN_SIGNS)


def is_spelled(_, thing):
    """Whether there are pairs of unlike signs, ascending, and texts."""
    pairs = thing[1]
    if not isinstance(pairs, tuple):
        return False
    for pair in pairs:
        if not is_pair(pair) or not is_sign(pair[0]) or not is_text(pair[1], 1, 4):
            return False
    return are_ascending([sign for sign, _ in pairs])


def is_quoted(_, thing):
    """Whether quote and escape are two unlike signs."""
    return is_sign(thing[1]) and is_sign(thing[2]) and thing[1] != thing[2]


def is_names(sort, thing):
    """Whether there are as many texts as numbers."""
    return is_tuple_of(thing[1], sort[1], sort[1]) and all(is_text(text, 0, 8) for text in thing[1])


def is_maybe(_, thing):
    """Whether the text of None is right."""
    return is_text(thing[1], 0, 8)


def is_row(sort, thing):
    """Whether there are texts, and pairs with each number once, ascending."""
    if not is_tuple_of(thing[1], 0, 13):
        return False
    numbers = []
    for part in thing[1]:
        if is_pair(part) and is_integer(part[0]):
            numbers.append(part[0])
        elif not is_text(part, 1, 8):
            return False
    return numbers == list(range(len(sort[1])))


def is_many(_, thing):
    """Whether the four texts are right."""
    return all(is_text(text, 0, 4) for text in thing[1:5])


def is_case(sort, thing):
    """Whether there are as many formats as sorts."""
    return is_tuple_of(thing[1], len(sort[1]), len(sort[1]))


def is_pad(_, thing):
    """Whether width, fill and side are right."""
    return is_number(thing[1], 0, 8) and is_sign(thing[2]) and is_one_of(thing[3], SIDES)


def is_cut(_, thing):
    """Whether the number of signs is right."""
    return is_number(thing[1], 0, 8)


def is_checked(_, thing):
    """Whether modulus and factor are right."""
    return is_number(thing[1], 2, 16) and is_number(thing[2], 1, thing[1] - 1)


def is_plain(_, thing):
    """Whether nothing stands behind the first word, which is told by the length."""
    return len(thing) == 1


CHECKS = {
    "figures": is_figures,
    "powers": is_powers,
    "plain": is_plain,
    "spelled": is_spelled,
    "quoted": is_quoted,
    "names": is_names,
    "maybe": is_maybe,
    "row": is_row,
    "many": is_many,
    "case": is_case,
    "pad": is_pad,
    "cut": is_cut,
    "skip": is_plain,
    "checked": is_checked,
}


def plain_format(sort):
    """The format by which spellings of skipped values are told."""
    kind = sort[0]
    if kind == "int":
        return ("figures", 10, "-", 1, 0, "", "")
    if kind == "word":
        return ("plain",)
    if kind == "one":
        return ("names", ("",) * sort[1])
    if kind == "maybe":
        return ("maybe", "", plain_format(sort[1]))
    if kind == "many":
        return ("many", "", "", "", "", plain_format(sort[1]))
    if kind == "row":
        return ("row", tuple([(at, plain_format(part)) for at, part in enumerate(sort[1])]))
    return ("case", tuple([plain_format(part) for part in sort[1]]))
