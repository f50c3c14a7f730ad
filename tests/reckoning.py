"""What the document's rules tell, word for word, to compare the package with; and things for judges."""

END = ("end",)
# Things that show nothing to any judge that asks for a tuple or a dict with something in it.
ODD_THINGS = (None, 0, 1, -1, True, False, "", "ab", (), [], {}, ((),), ([],), {(): 0}, {0: 0}, {"": ""}, (None,), ("ab",),
              ((0,),), ((0, 0, 0),), (True, True), ((True, False),), [(0, 0)], {(0, 0): True}, {(0,): 0}, {(0, 0): None},
              {(0, 0): "0"}, {(0, 0): -1}, {(True, 0): 0}, {((0, 0), ""): 0}, (((0, 0), 0),), (((0, 0),),), object(), 1.5)


def all_come_to(starts, behind):
    """All keys that are come to from the starts."""
    found = set(starts)
    waiting = list(found)
    while waiting:
        for key in behind(waiting.pop()):
            if key not in found:
                found.add(key)
                waiting.append(key)
    return found


def first_told(machine, both_ways=False):
    """First pairs [10], either place first if so asked."""
    found = set()
    for row in machine:
        if row[0] == "marks":
            for mark, place in row[1]:
                for other_mark, other_place in row[1]:
                    if mark < other_mark or both_ways and mark != other_mark:
                        found.add((place, other_place))
    return found


def steps_told(machine, other, pair):
    """What follows a pair [10]: the list of (pair behind, whether by a sign)."""
    row, other_row = machine[pair[0]], other[pair[1]]
    if row[0] == "marks":
        return [((place, pair[1]), 0) for _, place in row[1]]
    if other_row[0] == "marks":
        return [((pair[0], place), 0) for _, place in other_row[1]]
    if row[0] == other_row[0] == "sign" and row[1] == other_row[1]:
        return [((row[2], other_row[2]), 1)]
    return []


def behind_told(machine, other, pair):
    return {behind for behind, _ in steps_told(machine, other, pair)}


def are_ends(machine, other, pair):
    return machine[pair[0]] == END and other[pair[1]] == END


def is_whole(thing):
    return type(thing) is int and thing >= 0


def is_pair_of(machine, other, thing):
    return (type(thing) is tuple and len(thing) == 2 and all(type(part) is int for part in thing)
            and 0 <= thing[0] < len(machine) and 0 <= thing[1] < len(other))


def changed_tuples(rng, told, keys, many):
    """Tuples that are like one that is told, with some keys put in, taken out or put elsewhere."""
    for _ in range(many):
        thing = list(told)
        for _ in range(rng.choice((0, 1, 1, 2))):
            if thing and rng.random() < 0.5:
                thing.pop(rng.randrange(len(thing)))
            else:
                thing.insert(rng.randint(0, len(thing)), keys(rng))
        if rng.random() < 0.3:
            rng.shuffle(thing)
        yield tuple(thing)


def changed_dicts(rng, told, keys, worths, many):
    """Dicts that are like one that is told, with some keys put in or taken out, or others of their worths."""
    for _ in range(many):
        thing = dict(told)
        for _ in range(rng.choice((0, 1, 1, 1, 2))):
            kind = rng.random()
            if thing and kind < 0.3:
                del thing[rng.choice(sorted(thing, key=repr))]
            elif thing and kind < 0.85:
                thing[rng.choice(sorted(thing, key=repr))] = worths(rng)
            else:
                thing[keys(rng)] = worths(rng)
        if rng.random() < 0.3:
            order = list(thing)
            rng.shuffle(order)
            thing = {key: thing[key] for key in order}
        yield thing


def raised_numbers(rng, told, many):
    """Dicts like one of integers that is told, with some numbers one greater, or all so."""
    for _ in range(many):
        share = rng.choice((0.1, 0.5, 1))
        yield {key: worth + 1 if worth is not None and rng.random() < share else worth for key, worth in told.items()}


def truths_for_integers(thing):
    """A thing that is like another one but for one 0 or 1, which is False or True; None if there is none."""
    if type(thing) is int and thing in (0, 1):
        return bool(thing)
    if type(thing) is tuple:
        for at, part in enumerate(thing):
            changed = truths_for_integers(part)
            if changed is not None:
                return thing[:at] + (changed,) + thing[at + 1:]
    if type(thing) is dict:
        for key, worth in thing.items():
            changed = truths_for_integers(worth)
            if changed is not None:
                return {other: changed if other == key else thing[other] for other in thing}
        for key in thing:
            changed = truths_for_integers(key)
            if changed is not None:
                return {changed if other == key else other: worth for other, worth in thing.items()}
    return None


def lists_for_tuples(thing):
    """Things that are like another one but for one tuple in it, which is a list."""
    if type(thing) is tuple:
        yield list(thing)
        for at, part in list(enumerate(thing))[:3]:
            for changed in lists_for_tuples(part):
                yield thing[:at] + (changed,) + thing[at + 1:]
    if type(thing) is dict:
        yield list(thing.items())
        for key, worth in list(thing.items())[:3]:
            for changed in lists_for_tuples(worth):
                yield {other: changed if other == key else thing[other] for other in thing}
