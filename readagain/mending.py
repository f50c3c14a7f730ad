"""Values whose texts have the same length as a text with wrong, or lost, signs."""

from readagain.errors import BadText, TooLarge
from readagain.machines import machine_of
from readagain.pairing import end_of
from readagain.scores import value_of
from readagain.signs import SIGNS, is_integer
from readagain.tracing import rows_along
from readagain.walks import reached, ways_on

LONGEST_TEXT = 60
MOST_VALUES = 1000
LOST = "\u25a1"
FIRST_KEY = (0, 0)


def check_signs(text, signs):
    """Raise BadText unless a thing is a text of at most 60 of some signs."""
    if not isinstance(text, str):
        raise BadText(0)
    for at, sign in enumerate(text):
        if at == LONGEST_TEXT or sign not in signs:
            raise BadText(at)


def corrected(sort, format, text):
    """The fewest wrong signs, and the list of all values from whose texts a text differs in so many."""
    machine = machine_of(sort, format)
    check_signs(text, SIGNS)

    def steps_from(key):
        return key_steps(machine, text, key, True)
    edges = reached([FIRST_KEY], steps_from)
    costs = ways_on(edges, [(len(text), end_of(machine))])[1]
    if FIRST_KEY not in costs:
        return (None, [])
    return (costs[FIRST_KEY], values_along(sort, format, edges, costs))


def is_sure(sort, format, text, most):
    """Whether just one value has a text that differs in the fewest signs, and these are at most so many."""
    n, values = corrected(sort, format, text)
    if n is None or values is None or not is_integer(most):
        return False
    return n <= most and len(values) == 1


def fitting(sort, format, pattern):
    """The list of all values whose texts a pattern may be."""
    machine = machine_of(sort, format)
    check_signs(pattern, SIGNS + LOST)

    def steps_from(key):
        return key_steps(machine, pattern, key, False)
    edges = reached([FIRST_KEY], steps_from)
    costs = ways_on(edges, [(len(pattern), end_of(machine))])[1]
    return values_along(sort, format, edges, costs) if FIRST_KEY in costs else []


def lost_at(text, places):
    """A text with the signs at some places lost."""
    return "".join([LOST if at in places else sign for at, sign in enumerate(text)])


def key_steps(machine, text, key, may_be_wrong):
    """What follows a key (signs behind it, place): a list of (key behind, item, cost)."""
    signs, place = key
    row = machine[place]
    if row[0] == "marks":
        return [((signs, behind), mark, 0) for mark, behind in row[1]]
    if row[0] == "end" or signs == len(text):
        return []
    if text[signs] == row[1] or text[signs] == LOST:
        return [((signs + 1, row[2]), row[1], 0)]
    return [((signs + 1, row[2]), row[1], 1)] if may_be_wrong else []


def values_along(sort, format, edges, costs):
    """The list of the values to whose ends ways with the least costs lead; None for endless many."""
    def least_steps(key):
        steps = [step for step in edges[key] if step[0] in costs]
        return [step for step in steps if costs[step[0]] + step[2] == costs[key]]
    least = reached([FIRST_KEY], least_steps)
    rows = rows_along({key: [step[:2] for step in steps] for key, steps in least.items()}, MOST_VALUES)
    if rows is None:
        return None
    if isinstance(rows, int):
        raise TooLarge(MOST_VALUES)
    return [value_of(sort, format, row) for row in rows]
