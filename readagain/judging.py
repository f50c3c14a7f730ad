"""What judges ask of things that are said to show something."""

from readagain.signs import is_number, is_pair, is_tuple_of


def is_place(machine, thing):
    """Whether a thing is a place of a machine."""
    return is_number(thing, 0, len(machine) - 1)


def is_place_pair(machine, other, thing):
    """Whether a thing is a pair of places, one of each machine."""
    return is_pair(thing) and is_place(machine, thing[0]) and is_place(other, thing[1])


def is_closed_tuple(thing, is_key, starts, keys_behind, is_wrong):
    """Whether a thing is a tuple of keys that has the starts, with each all behind it, and no wrong one."""
    if not isinstance(thing, tuple) or not all(is_key(part) for part in thing):
        return False
    keys = {part: True for part in thing}
    if not all(start in keys for start in starts):
        return False
    for key in keys:
        if is_wrong(key) or not all(behind in keys for behind in keys_behind(key)):
            return False
    return True


def is_table(thing, is_key, is_worth):
    """Whether a thing is a dict of such keys to such things."""
    if not isinstance(thing, dict):
        return False
    return all(is_key(key) and is_worth(worth) for key, worth in thing.items())


def is_count(thing):
    """Whether a thing is an integer from 0 on."""
    return is_number(thing, 0, None)


def is_count_or_none(thing):
    """Whether a thing is None, or an integer from 0 on."""
    return thing is None or is_count(thing)


def shows_first(named, thing, is_same, shows, are_against):
    """Whether a thing shows which of some named formats is the first one that will do, or that none will.

    It is (name, what shows it, pairs of values against all ahead, each behind its name), or
    (None, None, such for all). is_same(name, thing) tells whether a thing is a name, shows(format,
    thing) whether it shows that a format will do, are_against(format, one, other) whether two
    things show that it won't.
    """
    if not is_tuple_of(thing, 3, 3) or not isinstance(thing[2], tuple):
        return False
    told, shown, rows = thing
    for at, (name, format) in enumerate(named):
        if is_same(name, told):
            return len(rows) == at and shows(format, shown)
        if at == len(rows) or not is_tuple_of(rows[at], 3, 3) or not is_same(name, rows[at][0]):
            return False
        if not are_against(format, rows[at][1], rows[at][2]):
            return False
    return told is None and shown is None and len(rows) == len(named)
