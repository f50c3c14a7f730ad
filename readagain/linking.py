"""Two machines gone along together, mark by mark, by formats that spell alike."""

from readagain.parsing import is_extra


def starts(machine, other):
    """The ascending tuple of (text, other text, pair of halts) for ways from both beginnings."""
    first = starts_between(machine, other)
    useful = useful_links(machine, other, first)
    return tuple(sorted([start for start in first if start[2] in useful]))


def links(machine, other):
    """The dict of pairs of halts to the ascending tuples of their links."""
    return useful_links(machine, other, starts_between(machine, other))


def starts_between(machine, other):
    """The list of (text, other text, pair of halts), also of pairs that lead to no ends."""
    return joined_ways(ways_from(machine, 0), ways_from(other, 0))


def joined_ways(ways, other_ways):
    """Each way of the one with each way of the other."""
    return [(text, other_text, (halt, other_halt)) for text, halt in ways for other_text, other_halt in other_ways]


def ways_from(machine, place):
    """The pairs of a text and the halt to which it leads, by signs and extra marks alone."""
    found = []
    waiting = [("", place)]
    while waiting:
        text, at = waiting.pop()
        row = machine[at]
        if row[0] == "sign":
            waiting.append((text + row[1], row[2]))
        elif row[0] == "marks" and is_extra(row[1][0][0]):
            waiting.extend([(text, behind) for _, behind in row[1]])
        else:
            found.append((text, at))
    return found


def useful_links(machine, other, first):
    """The links between pairs that can be come to, and from which two ends can be."""
    found = all_links(machine, other, first)
    useful = leading_to_ends(machine, other, found)
    kept = {}
    for pair in sorted(useful):
        kept[pair] = tuple(sorted([link for link in found[pair] if link[3] in useful]))
    return kept


def all_links(machine, other, first):
    """The dict of all pairs that can be come to, to the lists of their links."""
    ways = WayTable(machine)
    other_ways = WayTable(other)
    found = {}
    waiting = [start[2] for start in first]
    while waiting:
        pair = waiting.pop()
        if pair not in found:
            found[pair] = links_from(ways, other_ways, pair)
            waiting.extend([link[3] for link in found[pair]])
    return found


class WayTable:
    """The ways behind the marks of a machine, each looked for once."""

    def __init__(self, machine):
        self.machine = machine
        self.told = {}

    def behind_marks(self, halt):
        """The dict of the marks at a halt to the ways from the places behind them."""
        if halt not in self.told:
            row = self.machine[halt]
            marks = row[1] if row[0] == "marks" else ()
            self.told[halt] = {mark: ways_from(self.machine, behind) for mark, behind in marks}
        return self.told[halt]


def links_from(ways, other_ways, pair):
    """The links from a pair of halts."""
    other_marks = other_ways.behind_marks(pair[1])
    found = []
    for mark, told in ways.behind_marks(pair[0]).items():
        if mark in other_marks:
            found.extend([(mark,) + joined for joined in joined_ways(told, other_marks[mark])])
    return found


def leading_to_ends(machine, other, found):
    """The dict of the pairs from which a pair of two ends can be come to."""
    sources = {linked: [] for linked in found}
    for pair, row in found.items():
        for link in row:
            sources[link[3]].append(pair)
    useful = {}
    waiting = [(one, two) for one, two in found if machine[one][0] == "end" and other[two][0] == "end"]
    while waiting:
        pair = waiting.pop()
        if pair not in useful:
            useful[pair] = True
            waiting.extend(sources[pair])
    return useful
