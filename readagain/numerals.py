"""Drafts of machines for integers."""

from readagain.drafts import END, START, explored
from readagain.signs import FIGURES, figure_text, figures_of, mark_ahead, shown_sign

NOUGHT = ("nought",)


def magnitudes(sort):
    """The dict of the marks of signs to the least and the most integer without its sign."""
    _, low, high = sort
    found = {}
    if low is None or low < 0:
        found["minus"] = (1 if high is None or high >= 0 else -high, None if low is None else -low)
    if high is None or high >= 0:
        found["plus"] = (0 if low is None else max(0, low), high)
    return found


def written_sign(mark, sign):
    """What is written for an integer with this mark."""
    return shown_sign(-1 if mark == "minus" else 1, sign)


def order_of(one, other):
    """-1, 0 or 1: whether a number is less, the same, or greater."""
    return (one > other) - (one < other)


class Bounds:
    """Which rows of figures are those of the numbers from low to high (None: without a bound).

    A state is (how many figures have come, how they stand to the first figures of low, to those
    of high).
    """

    def __init__(self, base, low, high):
        self.low = figures_of(low, base)
        self.high = None if high is None else figures_of(high, base)

    def behind(self, state, figure):
        """The state behind one more figure."""
        many, low, high = state
        if low == 0 and many < len(self.low):
            low = order_of(figure, self.low[many])
        if many >= len(self.low):
            low = 0
        if high == 0 and self.high is not None:
            high = order_of(figure, self.high[many])
        return (many + 1, low, high)

    def is_within(self, state):
        """Whether the figures that have come are those of such a number."""
        many, low, high = state
        if many == 0 or many < len(self.low) or many == len(self.low) and low < 0:
            return False
        return self.high is None or many < len(self.high) or high <= 0

    def can_go_on(self, state):
        """Whether more figures may come."""
        return self.high is None or state[0] < len(self.high)


def figures_draft(sort, format):
    """The draft of integers in figures."""
    steps = FigureSteps(sort, format)
    return explored("", START, steps.edges)


class FigureSteps:
    """The edges for integers in figures.

    Keys behind all extra marks are (word, sign's mark, noughts, number of the first mark, state).
    """

    def __init__(self, sort, format):
        self.base, self.sign, self.least, self.group, self.mark, self.ahead = format[1:]
        self.bounds = {mark: Bounds(self.base, pair[0], pair[1]) for mark, pair in magnitudes(sort).items()}

    def edges(self, key):
        """The edges from a key."""
        if key == START:
            return [self.edge_to_zeros(mark) for mark in self.bounds]
        if key[0] == "zeros":
            return [self.edge_to_first(f"zeros {zeros}", key[1], zeros) for zeros in range(self.least)]
        if key[0] == "first":
            return [self.edge_to_figures(f"first {first}", key[1], key[2], first) for first in self.firsts(key[2])]
        if key[0] == "nought":
            return [("stop", "", END)] if self.can_stop(key, 1) else []
        return self.figure_edges(key)

    def edge_to_zeros(self, mark):
        """The edge of a sign's mark."""
        if self.least > 1:
            return (mark, "", ("zeros", mark))
        return self.edge_to_first(mark, mark, 0)

    def edge_to_first(self, mark, sign, zeros):
        """The edge of the mark behind which the number of noughts is known."""
        if self.group > 0:
            return (mark, "", ("first", sign, zeros))
        return self.edge_to_figures(mark, sign, zeros, 0)

    def edge_to_figures(self, mark, sign, zeros, first):
        """The edge of the last mark ahead of what is written."""
        noughts = [mark_ahead(at, first, self.group, self.mark) + "0" for at in range(zeros)]
        text = written_sign(sign, self.sign) + self.ahead + "".join(noughts)
        return (mark, text, ("figures", sign, zeros, first, (0, 0, 0)))

    def firsts(self, zeros):
        """How many figures may stand ahead of the first mark."""
        if zeros > 0:
            return [(self.least - 1) % self.group + 1]
        return list(range(1, self.group + 1))

    def can_stop(self, key, many):
        """Whether there may be so many figures behind the noughts."""
        _, _, zeros, first, _ = key
        if many < self.least - zeros or zeros > 0 and many > self.least - zeros:
            return False
        return self.group == 0 or (zeros + many - first) % self.group == 0

    def figure_edges(self, key):
        """The edges ahead of a figure, or of the stop."""
        _, sign, zeros, first, state = key
        bounds = self.bounds[sign]
        edges = []
        if bounds.is_within(state) and self.can_stop(key, state[0]):
            edges.append(("stop", "", END))
        if not bounds.can_go_on(state) or zeros > 0 and state[0] >= self.least - zeros:
            return edges
        mark = mark_ahead(zeros + state[0], first, self.group, self.mark)
        for figure in range(self.base):
            behind = ("figures", sign, zeros, first, self.wrapped(bounds, bounds.behind(state, figure)))
            if figure == 0 and state[0] == 0:
                behind = ("nought", sign, zeros, first, state)
            if figure > 0 or state[0] > 0 or bounds.low == [0]:
                edges.append((f"figure {FIGURES[figure]}", mark + FIGURES[figure], behind))
        return edges

    def wrapped(self, bounds, state):
        """The state with no more figures than needed to tell what may follow."""
        many, low, high = state
        turn = max(1, self.group)
        if bounds.high is None and many > max(len(bounds.low), self.least) + turn:
            many -= turn
        return (many, low, high)


def powers_draft(sort, format):
    """The draft of integers as multiples of powers."""
    steps = PowerSteps(sort, format)
    return explored("", START, steps.edges)


class PowerSteps:
    """The edges for integers as multiples of powers.

    Keys behind the power's mark are (sign's mark, power, state, whether the last figure is a nought).
    """

    def __init__(self, sort, format):
        self.base, self.sign = format[1:]
        self.signs = magnitudes(sort)
        self.bounds = {}
        for mark, (low, high) in self.signs.items():
            power = 0
            worth = 1
            while worth <= high:
                least = max(1, -(-low // worth))
                if least <= high // worth:
                    self.bounds[(mark, power)] = Bounds(self.base, least, high // worth)
                power += 1
                worth = worth * self.base

    def edges(self, key):
        """The edges from a key."""
        if key == START:
            return [(mark, "", ("power", mark)) for mark in self.signs]
        if key == NOUGHT:
            return [("stop", "", END)]
        if key[0] == "power":
            return self.power_edges(key[1])
        return self.figure_edges(key)

    def power_edges(self, sign):
        """The edges of the powers."""
        powers = [power for mark, power in self.bounds if mark == sign]
        if 0 not in powers and self.has_nought(sign, 0):
            powers.append(0)
        text = written_sign(sign, self.sign)
        return [(f"power {power}", text, (sign, power, (0, 0, 0), False)) for power in powers]

    def has_nought(self, sign, power):
        """Whether 0 begins so."""
        return sign == "plus" and power == 0 and self.signs[sign][0] == 0

    def figure_edges(self, key):
        """The edges ahead of a figure, or of the stop."""
        sign, power, state, is_nought = key
        edges = []
        if state[0] == 0 and self.has_nought(sign, power):
            edges.append(("figure 0", "0", NOUGHT))
        if (sign, power) not in self.bounds:
            return edges
        bounds = self.bounds[(sign, power)]
        if bounds.is_within(state) and not is_nought:
            edges.append(("stop", "e" + figure_text(power, 10) if power > 0 else "", END))
        if bounds.can_go_on(state):
            for figure in range(0 if state[0] > 0 else 1, self.base):
                behind = (sign, power, bounds.behind(state, figure), figure == 0)
                edges.append((f"figure {FIGURES[figure]}", FIGURES[figure], behind))
        return edges
