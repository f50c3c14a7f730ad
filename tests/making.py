"""Sorts, formats and values for the tests, made by a random source with a fixed seed."""

from itertools import product

from readagain.formats import is_format
from readagain.sorts import how_many_values, is_sort, is_value

FIGURES = ("figures", 10, "-", 1, 0, "", "")
TWO = ("figures", 10, "-", 2, 0, "", "")
PADDED = ("pad", 2, "0", ">", FIGURES)
GROUPED = ("figures", 10, "+", 5, 3, ",", "")
WORD = ("word", "ab", 0, 2)
PRICE = ("row", (("int", 0, None), ("int", 0, 99)))
LOOSE = ("row", ((0, FIGURES), (1, FIGURES)))
TIGHT = ("row", ((0, FIGURES), (1, PADDED)))
INT = ("int", None, None)
DIGITS = ("int", 0, 99)


def some_bounds(rng, endless):
    low, high = sorted([rng.randint(-30, 40), rng.randint(-30, 40)])
    if rng.random() < 0.3:
        low, high = sorted([rng.randint(-1500, 1500), rng.randint(-1500, 1500)])
    if endless and rng.random() < 0.3:
        low = None
    if endless and rng.random() < 0.4:
        high = None
    return ("int", low, high)


def some_lengths(rng, endless, top):
    least = rng.choice((0, 0, 0, 1, 2))
    most = least + rng.randint(0, top)
    if endless and rng.random() < 0.4:
        most = None
    return least, most


def some_sort(rng, deep, endless):
    kinds = ["int", "word", "one"]
    if deep > 1:
        kinds += ["maybe", "row", "many", "case"]
    kind = rng.choice(kinds)
    if kind == "int":
        return some_bounds(rng, endless)
    if kind == "word":
        signs = "".join(sorted(set(rng.sample("ab0'!-e,x1", rng.randint(1, 3)))))
        return ("word", signs) + some_lengths(rng, endless, 2)
    if kind == "one":
        return ("one", rng.choice((1, 2, 3, 12)))
    if kind == "maybe":
        return ("maybe", some_sort(rng, deep - 1, endless))
    if kind == "many":
        return ("many", some_sort(rng, deep - 1, endless)) + some_lengths(rng, endless, 2)
    many = rng.randint(0 if kind == "row" else 1, 3)
    return (kind, tuple(some_sort(rng, deep - 1, endless) for _ in range(many)))


def some_text(rng, least, most):
    return "".join(rng.choice("ab01-+,;'( e") for _ in range(rng.randint(least, most)))


def some_wrapped(rng, sort, deep):
    kind = rng.choice(("pad", "pad", "pad", "cut", "skip", "checked"))
    if kind == "skip":
        return ("skip",)
    within = some_format(rng, sort, deep - 1)
    if kind == "pad":
        return ("pad", rng.randint(0, 5), rng.choice("0 a"), rng.choice("<>^"), within)
    if kind == "cut":
        return ("cut", rng.randint(0, 6), within)
    modulus = rng.randint(2, 16)
    return ("checked", modulus, rng.randint(1, modulus - 1), within)


def some_int_format(rng, sort):
    if sort[1] is not None and sort[2] is not None and rng.random() < 0.25:
        return ("powers", rng.choice((2, 3, 10)), rng.choice("-+ "))
    base = rng.choice((2, 8, 10, 16))
    group = rng.choice((0, 0, 2, 3, 4))
    mark = rng.choice(",-x ") if group else ""
    return ("figures", base, rng.choice("-+ "), rng.choice((1, 1, 2, 3, 5)), group, mark, some_text(rng, 0, 1))


def some_word_format(rng):
    kind = rng.choice(("plain", "spelled", "quoted"))
    if kind == "plain":
        return ("plain",)
    if kind == "spelled":
        signs = sorted(rng.sample("ab0'!-e", rng.randint(0, 3)))
        return ("spelled", tuple((sign, some_text(rng, 1, 3)) for sign in signs))
    return ("quoted",) + tuple(rng.sample("ab'!\"", 2))


def some_row(rng, sort, deep):
    parts = []
    for at, part in enumerate(sort[1]):
        if rng.random() < 0.4:
            parts.append(some_text(rng, 1, 2))
        parts.append((at, some_format(rng, part, deep - 1)))
    if rng.random() < 0.3:
        parts.append(some_text(rng, 1, 2))
    return ("row", tuple(parts))


def some_format(rng, sort, deep):
    if deep > 4 and rng.random() < 0.25:
        return some_wrapped(rng, sort, deep)
    kind = sort[0]
    if kind == "int":
        return some_int_format(rng, sort)
    if kind == "word":
        return some_word_format(rng)
    if kind == "one":
        return ("names", tuple(some_text(rng, 0, 3) for _ in range(sort[1])))
    if kind == "maybe":
        return ("maybe", some_text(rng, 0, 3), some_format(rng, sort[1], deep - 1))
    if kind == "row":
        return some_row(rng, sort, deep)
    if kind == "many":
        texts = tuple(some_text(rng, 0, 2) for _ in range(4))
        return ("many",) + texts + (some_format(rng, sort[1], deep - 1),)
    return ("case", tuple(some_format(rng, part, deep - 1) for part in sort[1]))


def some_pair(rng, endless, deep=3):
    """A sort and a format of it."""
    while True:
        sort = some_sort(rng, deep, endless)
        format = some_format(rng, sort, 7)
        if is_sort(sort) and is_format(sort, format):
            return sort, format


def some_cut_many(rng):
    """A sort of endless many values, and a format of it: a cut around a format of many, within another format."""
    while True:
        part, other = some_sort(rng, rng.choice((1, 1, 2)), True), some_sort(rng, 1, True)
        many = ("many", part, rng.choice((0, 0, 1, 2)), None)
        texts = tuple(some_text(rng, 0, 2) for _ in range(4))
        within = ("cut", rng.randint(0, 4), ("many",) + texts + (some_format(rng, part, 3),))
        beside = some_format(rng, other, 4)
        sort, format = rng.choice((
            (("many", many, rng.choice((0, 1)), rng.choice((None, 2))), ("many",) + texts[::-1] + (within,)),
            (("row", (many, other)), ("row", (some_text(rng, 1, 1), (0, within), (1, beside)))),
            (("row", (other, many)), ("row", ((0, beside), (1, within)))),
            (("maybe", many), ("maybe", some_text(rng, 1, 2), within)),
            (("case", (other, many)), ("case", (beside, within))),
            (many, ("pad", rng.randint(1, 4), rng.choice("0a"), rng.choice("<>^"), within)), (many, ("checked", 3, 2, within))))
        if is_sort(sort) and is_format(sort, format):
            return sort, format


def some_values(rng, sort, size):
    """Some values of a sort: all of them, if they are few."""
    many = how_many_values(sort)
    if many is not None and many <= size:
        return all_values(sort)
    found = {some_value(rng, sort) for _ in range(size)}
    assert all(is_value(sort, value) for value in found)
    return list(found)


def some_value(rng, sort):
    kind = sort[0]
    if kind == "int":
        low = -10 ** rng.randint(0, 9) if sort[1] is None else sort[1]
        high = 10 ** rng.randint(0, 9) if sort[2] is None else sort[2]
        return rng.randint(min(low, high), max(low, high)) if low <= high else sort[1] or sort[2] or 0
    if kind == "word":
        return "".join(rng.choice(sort[1]) for _ in range(some_length(rng, sort)))
    if kind == "one":
        return rng.randrange(sort[1])
    if kind == "maybe":
        return None if rng.random() < 0.3 else ("some", some_value(rng, sort[1]))
    if kind == "row":
        return tuple(some_value(rng, part) for part in sort[1])
    if kind == "many":
        return tuple(some_value(rng, sort[1]) for _ in range(some_length(rng, sort)))
    number = rng.randrange(len(sort[1]))
    return (number, some_value(rng, sort[1][number]))


def some_length(rng, sort):
    return rng.randint(sort[2], sort[2] + 3 if sort[3] is None else sort[3])


def all_values(sort):
    """All values of a sort that has finitely many."""
    kind = sort[0]
    if kind == "int":
        return list(range(sort[1], sort[2] + 1))
    if kind == "one":
        return list(range(sort[1]))
    if kind == "word":
        return ["".join(row) for many in range(sort[2], sort[3] + 1) for row in product(sort[1], repeat=many)]
    if kind == "maybe":
        return [None] + [("some", value) for value in all_values(sort[1])]
    if kind == "row":
        return list(product(*[all_values(part) for part in sort[1]]))
    if kind == "many":
        if sort[3] == 0:
            return [()]
        values = all_values(sort[1])
        return [row for many in range(sort[2], sort[3] + 1) for row in product(values, repeat=many)]
    return [(number, value) for number, part in enumerate(sort[1]) for value in all_values(part)]
