"""Formats guessed from values and their texts."""

from readagain.errors import BadThing
from readagain.formats import WRITTEN_SIGNS, is_format
from readagain.signs import is_pair, is_text, is_tuple_of, shown_sign
from readagain.sorts import is_value
from readagain.telling import written_by
from readagain.writing import write

MOST_ROWS = 20
LONGEST_TEXT = 12
FIGURE_BASES = (2, 8, 10, 16)
POWER_BASES = (2, 8, 10)
GREATEST_LEAST = 6
GROUPS_WITH_MARK = (2, 3, 4)
LONGEST_AHEAD = 4
LONGEST_SPELLED = 4
LAST_ESCAPE = "~"


def formats_for(sort, rows):
    """The ascending tuple of all formats, of those that are looked at, that write each value as its text."""
    if sort[0] not in GUESSERS or not are_rows(sort, rows):
        raise BadThing(rows)
    guesser = GUESSERS[sort[0]]
    formats = sorted([format for format in guesser(sort, rows) if is_format(sort, format)])
    return tuple([formats[number] for number in written_by(sort, formats, rows)])


def are_rows(sort, thing):
    """Whether a thing is a tuple of 1 to 20 pairs of a value and a text of at most 12 signs."""
    if not is_tuple_of(thing, 1, MOST_ROWS) or not all(is_pair(row) for row in thing):
        return False
    return all(is_value(sort, value) and is_text(text, 0, LONGEST_TEXT) for value, text in thing)


def signs_in(texts):
    """The ascending list of all signs that stand in some texts."""
    return sorted({sign for text in texts for sign in text})


def guess_int(sort, rows):
    """Formats of figures, each with what the first text has ahead; and of powers."""
    found = []
    for bare in bare_figures(signs_in([text for _, text in rows])):
        ahead = text_ahead(sort, bare, rows[0][0], rows[0][1])
        if len(ahead) <= LONGEST_AHEAD:
            found.append(bare[:-1] + (ahead,))
    found.extend([("powers", base, sign) for base in POWER_BASES for sign in WRITTEN_SIGNS])
    return found


def bare_figures(signs):
    """Formats of figures without a text ahead, the marks being some of these signs."""
    groups = [(0, "")] + [(group, mark) for group in GROUPS_WITH_MARK for mark in signs]
    found = []
    for base in FIGURE_BASES:
        for sign in WRITTEN_SIGNS:
            for least in range(1, GREATEST_LEAST + 1):
                found.extend([("figures", base, sign, least, group, mark, "") for group, mark in groups])
    return found


def text_ahead(sort, bare, value, text):
    """What must stand ahead of the figures, if a value has this text."""
    begun = len(shown_sign(value, bare[2]))
    lacking = max(0, len(text) - len(write(sort, bare, value)))
    return text[begun:begun + lacking]


def guess_word(sort, rows):
    """Plain, all spellings that will do, and quotes that stand ahead of the first text."""
    found = [("plain",)]
    found.extend([("spelled", tuple([(sign, texts[sign]) for sign in sorted(texts)])) for texts in all_spellings(rows)])
    escapes = signs_in([text for _, text in rows] + [LAST_ESCAPE])
    found.extend([("quoted", rows[0][1][:1], escape) for escape in escapes])
    return found


def all_spellings(rows):
    """The list of all dicts of the signs of words to texts with which each word is spelled as its text."""
    found = [{}]
    for word, text in rows:
        longer = []
        for texts in found:
            longer.extend(spellings_with(texts, word, text))
        found = longer
    return found


def spellings_with(known, word, text):
    """The list of the dicts, with all that is known in them, with which a word is spelled as its text."""
    found = []
    waiting = [(0, 0, known)]
    while waiting:
        at, begun, texts = waiting.pop()
        left = len(word) - at
        if not left <= len(text) - begun <= LONGEST_SPELLED * left:
            continue
        if left == 0:
            found.append(texts)
            continue
        sign = word[at]
        for size in range(1, LONGEST_SPELLED + 1):
            part = text[begun:begun + size]
            if texts.get(sign, part) == part:
                longer = dict(texts)
                longer[sign] = part
                waiting.append((at + 1, begun + size, longer))
    return found


def guess_one(sort, rows):
    """The names, if all numbers are told."""
    names = dict(rows)
    numbers = list(range(sort[1]))
    if sorted(names) != numbers:
        return []
    return [("names", tuple([names[number] for number in numbers]))]


GUESSERS = {
    "int": guess_int,
    "word": guess_word,
    "one": guess_one,
}
