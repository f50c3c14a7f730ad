"""Another reader of sources: pieces by patterns, rules that try all ways and keep in mind how far they came."""

import re

PATTERN = re.compile(r'(?P<blank> +)|(?P<remark>#[^\n]*)|(?P<feed>\n)|(?P<word>[a-z]+)|(?P<number>-?[0-9]+)|(?P<point>\.\.|[(),])|'
                     r'(?P<text>"(?:[ !#$&-\[\]-~]|\\["\\])*")')
BEGUN_TEXT = re.compile(r'"(?:[ !#$&-\[\]-~]|\\["\\])*\\?')


class Wrong(Exception):
    """A text can't be read; the line and the column."""


def place_in(text, at):
    """The line and the column of a place of a text."""
    ahead = text[:at]
    return (ahead.count("\n") + 1, at - (ahead.rfind("\n") + 1) + 1)


def pieces_told(text, most):
    """The list of (kind, what it tells, place in the text)."""
    found, at = [], 0
    while at < len(text):
        match = PATTERN.match(text, at)
        if match is None:
            begun = BEGUN_TEXT.match(text, at)
            raise Wrong(*place_in(text, begun.end() if begun else at))
        kind, told = match.lastgroup, match.group()
        if kind == "number":
            if not re.fullmatch(r"0|-?[1-9][0-9]{0,%d}" % (most - 1), told):
                raise Wrong(*place_in(text, at))
            found.append((kind, int(told), at))
        elif kind == "text":
            found.append((kind, re.sub(r'\\(["\\])', r"\1", told[1:-1]), at))
        elif kind in ("word", "point"):
            found.append((kind, told, at))
        at = match.end()
    return found


class Reading:
    """Pieces, and the number of the farthest one that was asked for in vain."""

    def __init__(self, text, most):
        self.text = text
        self.pieces = pieces_told(text, most)
        self.far = 0

    def whole(self, rule):
        """What a rule tells of all pieces."""
        found = rule(self, 0)
        for end, told in found:
            if end == len(self.pieces):
                return told
            self.far = max(self.far, end)
        at = self.pieces[self.far][2] if self.far < len(self.pieces) else len(self.text)
        raise Wrong(*place_in(self.text, at))


def one(kind, test=lambda told: True):
    def rule(reading, at):
        if at < len(reading.pieces) and reading.pieces[at][0] == kind and test(reading.pieces[at][1]):
            return [(at + 1, reading.pieces[at][1])]
        reading.far = max(reading.far, at)
        return []
    return rule


def word(told):
    return one("word", lambda other: other == told)


def point(told):
    return one("point", lambda other: other == told)


def row(put_together, *rules):
    """Rules one behind the other; what they tell is put together."""
    def rule(reading, at):
        ways = [(at, ())]
        for part in rules:
            ways = [(behind, told + (more,)) for end, told in ways for behind, more in part(reading, end)]
        return [(end, put_together(*told)) for end, told in ways]
    return rule


def either(*rules):
    def rule(reading, at):
        return [way for part in rules for way in part(reading, at)]
    return rule


def maybe(rule, lacking):
    """What a rule tells, or what is told if nothing stands there."""
    def may_lack(reading, at):
        return rule(reading, at) + [(at, lacking)]
    return may_lack


def between(rule_of, least=0, most=None):
    """A tuple of least to most things between brackets and commas; rule_of tells of a number the rule for it."""
    def rule(reading, at):
        ways = [(end, ()) for end, _ in point("(")(reading, at)]
        found, many = [], 0
        while ways:
            if many >= least:
                found += [(behind, told) for end, told in ways for behind, _ in point(")")(reading, end)]
            if many == most:
                break
            if many > 0:
                ways = [(behind, told) for end, told in ways for behind, _ in point(",")(reading, end)]
            ways = [(behind, told + (more,)) for end, told in ways for behind, more in rule_of(many)(reading, end)]
            many += 1
        return found
    return rule


NUMBER = one("number")
TEXT = one("text")
LOW_HIGH = row(lambda low, _, high: (low, high), maybe(NUMBER, None), point(".."), maybe(NUMBER, None))
LENGTHS = row(lambda least, _, most: (least, most), NUMBER, point(".."), maybe(NUMBER, None))


def sort_rule(reading, at):
    return either(
        row(lambda kind, bounds: (kind,) + bounds, word("int"), LOW_HIGH),
        row(lambda kind, signs, many: (kind, signs) + many, word("word"), TEXT, LENGTHS),
        row(lambda kind, many: (kind, many), word("one"), NUMBER),
        row(lambda kind, sort: (kind, sort), word("maybe"), sort_rule),
        row(lambda kind, many, sort: (kind, sort) + many, word("many"), LENGTHS, sort_rule),
        row(lambda kind, sorts: (kind, sorts), either(word("row"), word("case")), between(lambda _: sort_rule)))(reading, at)


def numbered(parts):
    found = []
    for part in parts:
        found.append(part if type(part) is str else (len([other for other in found if type(other) is tuple]), part))
    return tuple(found)


def behind_word(told, rule):
    return row(lambda _, found: found, word(told), rule)


PAIR = row(lambda *told: told, TEXT, TEXT)
GROUP = row(lambda *told: told, NUMBER, TEXT)


def format_rule(reading, at):
    return either(
        row(lambda kind, base, sign, least, group, ahead: (kind, base, sign, least) + group + (ahead,), word("figures"), NUMBER, TEXT,
            maybe(behind_word("least", NUMBER), 1), maybe(behind_word("group", GROUP), (0, "")), maybe(behind_word("ahead", TEXT), "")),
        row(lambda *told: told, word("powers"), NUMBER, TEXT),
        row(lambda *told: told, either(word("plain"), word("skip"))),
        row(lambda *told: told, word("spelled"), between(lambda _: PAIR)),
        row(lambda *told: told, word("quoted"), TEXT, TEXT),
        row(lambda *told: told, word("names"), between(lambda _: TEXT)),
        row(lambda *told: told, word("maybe"), TEXT, format_rule),
        row(lambda kind, parts: (kind, numbered(parts)), word("row"), between(lambda _: either(TEXT, format_rule))),
        row(lambda *told: told, word("many"), TEXT, TEXT, TEXT, TEXT, format_rule),
        row(lambda *told: told, word("case"), between(lambda _: format_rule)),
        row(lambda *told: told, word("pad"), NUMBER, TEXT, TEXT, format_rule),
        row(lambda *told: told, word("cut"), NUMBER, format_rule),
        row(lambda *told: told, word("checked"), NUMBER, NUMBER, format_rule))(reading, at)


def value_rule(sort):
    """The rule for the values of a sort."""
    kind = sort[0]
    if kind == "int":
        return one("number", lambda told: (sort[1] is None or told >= sort[1]) and (sort[2] is None or told <= sort[2]))
    if kind == "one":
        return one("number", lambda told: 0 <= told < sort[1])
    if kind == "word":
        return one("text", lambda told: sort[2] <= len(told) and (sort[3] is None or len(told) <= sort[3]) and set(told) <= set(sort[1]))
    if kind == "maybe":
        return either(row(lambda _: None, word("none")), row(lambda *told: told, word("some"), value_rule(sort[1])))
    if kind == "row":
        rules = [value_rule(part) for part in sort[1]]
        return between(lambda at: rules[at], len(rules), len(rules))
    if kind == "many":
        within = value_rule(sort[1])
        return row(lambda _, values: values, word("many"), between(lambda _: within, sort[2], sort[3]))
    return either(*[row(lambda _, *told: told, word("case"), one("number", lambda told, number=number: told == number), value_rule(part))
                    for number, part in enumerate(sort[1])])


def told_by(rule, text, most):
    """What a rule tells of a text; or the line and the column that are wrong, as a list."""
    try:
        return Reading(text, most).whole(rule)
    except Wrong as wrong:
        return list(wrong.args)


def joined(rng, pieces, wild):
    """Pieces put together, with blanks, and perhaps line feeds and remarks, wherever they may stand."""
    gaps = ["", " ", "  "] + (["\n", " \n ", " # a \"remark\" (\n", "#\n", "\n\n#%\t\u00e4 \\\n "] if wild else [])
    text = rng.choice(gaps)
    for at, piece in enumerate(pieces):
        gap = rng.choice(gaps)
        if gap == "" and at + 1 < len(pieces) and stick(piece, pieces[at + 1]):
            gap = " "
        text += piece + gap
    return text


def stick(piece, other):
    """Whether two pieces would be cut elsewhere without a blank between."""
    return piece[-1].isalpha() and other[0].isalpha() or piece[-1].isdigit() and other[0].isdigit() or piece[-1] == "." == other[0] \
        or piece == "-"


def spoiled(rng, pieces, more):
    """Pieces with one left out, put in, exchanged, or with the last ones cut off."""
    pieces = list(pieces)
    at = rng.randrange(len(pieces) + 1)
    kind = rng.choice(("out", "in", "exchanged", "off", "twice"))
    if kind == "in" or at == len(pieces):
        pieces.insert(at, rng.choice(more))
    elif kind == "out":
        del pieces[at]
    elif kind == "exchanged":
        pieces[at] = rng.choice(more)
    elif kind == "off":
        del pieces[at:]
    else:
        pieces.insert(at, pieces[at])
    return pieces


def split(text):
    """The pieces of a text without remarks, as texts."""
    return [match.group() for match in PATTERN.finditer(text) if match.lastgroup in ("word", "number", "point", "text")]


MORE_PIECES = ["int", "word", "one", "maybe", "row", "many", "case", "figures", "powers", "plain", "spelled", "quoted", "names", "pad", "cut",
               "checked", "skip", "least", "group", "ahead", "none", "some", "x", "(", ")", ",", "..", "0", "1", "7", "-3", "999999999",
               '""', '"a"', '"-"', '"ab"', '"\\""', '"\\\\"', '"#"', '"(,"']
NO_PIECES = [".", "-", "%", "'", "/", "A", "\t", "\u00e4", "007", "00", "-0", "-01", "1234567890", "-1234567890", "...", "\"a", "\"a\\b\"", "\"%\"",
             "\"\t\"", "\"\\", "\"\u25a1\"", "+5", "*", "[", "\\", "_"]
