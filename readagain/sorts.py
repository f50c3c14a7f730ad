"""Sorts, and their values."""

from readagain.errors import BadSort
from readagain.signs import are_ascending, is_integer, is_number, is_pair, is_text, is_tuple_of

DEEPEST_SORT = 4
MOST_SORTS = 16
GREATEST_BOUND = 999999999


def check_sort(thing):
    """Raise BadSort unless a thing is a sort."""
    if not is_sort(thing):
        raise BadSort(thing)


def is_sort(thing):
    """Whether a thing is a sort."""
    return 1 <= count_sorts(thing, DEEPEST_SORT) <= MOST_SORTS


def count_sorts(thing, deep):
    """How many sorts a sort of so many at most within one another has in all; 0 for no such sort."""
    if deep == 0 or not is_tuple_of(thing, 2, 4) or not isinstance(thing[0], str):
        return 0
    kind = thing[0]
    if kind == "int" or kind == "word" or kind == "one":
        return 1 if is_plain_sort(thing) else 0
    if kind == "maybe" and len(thing) == 2:
        return count_within((thing[1],), deep)
    if kind == "many" and len(thing) == 4 and are_lengths(thing[2], thing[3]):
        return count_within((thing[1],), deep)
    if kind == "row" and len(thing) == 2 and is_tuple_of(thing[1], 0, 6):
        return count_within(thing[1], deep)
    if kind == "case" and len(thing) == 2 and is_tuple_of(thing[1], 1, 6):
        return count_within(thing[1], deep)
    return 0


def count_within(things, deep):
    """How many sorts one has in all, itself counted, that has these within it; 0 if one is none."""
    total = 1
    for thing in things:
        many = count_sorts(thing, deep - 1)
        if many == 0:
            return 0
        total += many
    return total


def is_plain_sort(thing):
    """Whether a tuple that begins with int, word or one is such a sort."""
    if thing[0] == "one":
        return len(thing) == 2 and is_number(thing[1], 1, 12)
    if thing[0] == "word":
        return len(thing) == 4 and are_word_signs(thing[1]) and are_lengths(thing[2], thing[3])
    if len(thing) != 3 or not is_bound(thing[1]) or not is_bound(thing[2]):
        return False
    return thing[1] is None or thing[2] is None or thing[1] <= thing[2]


def is_bound(thing):
    """Whether a thing is None or an integer of at most 9 figures."""
    return thing is None or is_number(thing, -GREATEST_BOUND, GREATEST_BOUND)


def are_word_signs(thing):
    """Whether a thing is a text of 1 to 12 unlike signs, ascending."""
    return is_text(thing, 1, 12) and are_ascending(thing)


def are_lengths(least, most):
    """Whether two things are the least and the most of a sort of words or many."""
    return is_number(least, 0, 8) and (most is None or is_number(most, least, 12))


def is_value(sort, thing):
    """Whether a thing is a value of the sort."""
    kind = sort[0]
    if kind == "int":
        return is_integer(thing) and is_between(thing, sort[1], sort[2])
    if kind == "word":
        return isinstance(thing, str) and is_between(len(thing), sort[2], sort[3]) and has_only(thing, sort[1])
    if kind == "one":
        return is_number(thing, 0, sort[1] - 1)
    if kind == "maybe":
        return thing is None or is_some(thing) and is_value(sort[1], thing[1])
    if not isinstance(thing, tuple):
        return False
    if kind == "row":
        return len(thing) == len(sort[1]) and all(is_value(sort[1][at], thing[at]) for at in range(len(thing)))
    if kind == "many":
        return is_between(len(thing), sort[2], sort[3]) and all(is_value(sort[1], part) for part in thing)
    if not is_pair(thing) or not is_number(thing[0], 0, len(sort[1]) - 1):
        return False
    return is_value(sort[1][thing[0]], thing[1])


def is_some(thing):
    """Whether a thing is a pair of some and another thing."""
    return is_pair(thing) and isinstance(thing[0], str) and thing[0] == "some"


def is_between(number, low, high):
    """Whether a number is from low to high (None: without a bound)."""
    return (low is None or number >= low) and (high is None or number <= high)


def has_only(word, signs):
    """Whether all signs of a word are among these."""
    return all(sign in signs for sign in word)


def how_many_values(sort):
    """How many values a sort has; None for endless many."""
    kind = sort[0]
    if kind == "int":
        return None if sort[1] is None or sort[2] is None else sort[2] - sort[1] + 1
    if kind == "word":
        return count_rows(len(sort[1]), sort[2], sort[3])
    if kind == "one":
        return sort[1]
    if kind == "many":
        return count_rows(how_many_values(sort[1]), sort[2], sort[3])
    if kind == "maybe":
        return add_counts([1, how_many_values(sort[1])])
    counts = [how_many_values(part) for part in sort[1]]
    return add_counts(counts) if kind == "case" else multiply_counts(counts)


def count_rows(many, least, most):
    """How many rows there are of least to most things of which there are so many."""
    if most == 0:
        return 1
    if many is None or most is None:
        return None
    total = 0
    power = 1
    for length in range(most + 1):
        if length >= least:
            total += power
        power = power * many
    return total


def add_counts(counts):
    """The sum, None if one is None."""
    if None in counts:
        return None
    return sum(counts)


def multiply_counts(counts):
    """The product, None if one is None."""
    if None in counts:
        return None
    product_so_far = 1
    for count in counts:
        product_so_far = product_so_far * count
    return product_so_far
