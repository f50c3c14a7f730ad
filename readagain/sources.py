"""Sorts and formats read from texts, and texts that are read so."""

from readagain.formats import check_format
from readagain.pieces import FIGURES_OF_SOURCES, RANGE, Source, quoted
from readagain.sorts import check_sort

# How a sort or a format that has begun goes on: it is whole, has one within it, or several between brackets.
WHOLE = "whole"
WITHIN = "within"
LISTED = "listed"
SORT_WORDS = ("int", "word", "one", "many", "maybe", "row", "case")
PIECES_OF = {
    "powers": ("number", "text"),
    "plain": (),
    "quoted": ("text", "text"),
    "maybe": ("text",),
    "many": ("text", "text", "text", "text"),
    "pad": ("number", "text", "text"),
    "cut": ("number",),
    "checked": ("number", "number"),
    "skip": (),
}
WITH_FORMAT = ("maybe", "many", "pad", "cut", "checked")
FORMAT_WORDS = (
    "figures", "powers", "plain", "spelled", "quoted", "names", "maybe", "row", "many", "case", "pad", "cut", "checked",
    "skip")


def read_sort(text):
    """The sort that a text tells."""
    source = Source(text, 1, FIGURES_OF_SOURCES)
    sort = sort_from(source)
    source.finish()
    check_sort(sort)
    return sort


def read_format(sort, text):
    """The format of a sort that a text tells."""
    source = Source(text, 1, FIGURES_OF_SOURCES)
    format = format_from(source)
    source.finish()
    check_format(sort, format)
    return format


def sort_from(source):
    """What the next pieces tell as a sort, perhaps none."""
    return nested(source, begin_sort, list_sorts)


def format_from(source):
    """What the next pieces tell as a format, perhaps none."""
    return nested(source, begin_format, list_formats)


def nested(source, begin, put_together):
    """What the next pieces tell, however many lie within one another.

    begin(source, waiting) takes the pieces of one up to those within it, and tells how it goes on:
    (how, what stands ahead of what is within, what behind it). waiting is the list of those begun
    that aren't over: pairs of what stands ahead, and what behind, or the list of those within.
    """
    waiting = []
    while True:
        how, ahead, behind = begin(source, waiting)
        if how == WHOLE:
            told = put_within(source, waiting, ahead, put_together)
        elif how == LISTED and closes_at_once(source):
            told = put_within(source, waiting, put_together(ahead, []), put_together)
        else:
            waiting.append((ahead, behind))
            told = None
        if told is not None:
            return told


def closes_at_once(source):
    """Take the opening bracket, and the closing one if it comes next: whether it does."""
    source.take_point("(")
    if not source.is_point(")"):
        return False
    source.take_point(")")
    return True


def put_within(source, waiting, told, put_together):
    """Put what is told into those that wait for it; the outermost one if it is over, None if more must come."""
    while waiting:
        ahead, behind = waiting[-1]
        if isinstance(behind, list):
            behind.append(told)
            if source.is_point(","):
                source.take_point(",")
                return None
            source.take_point(")")
            told = put_together(ahead, behind)
        else:
            told = ahead + (told,) + behind
        waiting.pop()
    return told


def begin_sort(source, _):
    """Take the pieces of a sort up to those within it."""
    word = source.take_one_of(SORT_WORDS)
    beginner = SORT_BEGINNERS[word]
    return beginner(source, word)


def begin_int(source, word):
    """Bounds, which may lack."""
    low = source.number_or_none()
    source.take_point(RANGE)
    return (WHOLE, (word, low, source.number_or_none()), ())


def lengths_from(source):
    """The pair of the least and the most, which may lack."""
    least = source.take("number")
    source.take_point(RANGE)
    return (least, source.number_or_none())


def begin_word(source, word):
    """Signs and lengths."""
    signs = source.take("text")
    return (WHOLE, (word, signs) + lengths_from(source), ())


def begin_one(source, word):
    """How many."""
    return (WHOLE, (word, source.take("number")), ())


def begin_many(source, word):
    """Lengths, which stand behind the sort within."""
    return (WITHIN, (word,), lengths_from(source))


def begin_maybe(source, word):
    """Nothing but the sort within."""
    return (WITHIN, (word,), ())


def begin_listed(source, word):
    """Those between brackets."""
    return (LISTED, word, [])


SORT_BEGINNERS = {
    "int": begin_int,
    "word": begin_word,
    "one": begin_one,
    "many": begin_many,
    "maybe": begin_maybe,
    "row": begin_listed,
    "case": begin_listed,
}


def list_sorts(word, sorts):
    """The sort with some sorts between brackets."""
    return (word, tuple(sorts))


def begin_format(source, waiting):
    """Take the pieces of a format up to those within it; a text may stand in a row."""
    if waiting and waiting[-1][0] == "row" and source.is_kind("text"):
        return (WHOLE, source.take("text"), ())
    word = source.take_one_of(FORMAT_WORDS)
    if word == "row" or word == "case":
        return begin_listed(source, word)
    if word == "figures":
        return (WHOLE, figures_from(source), ())
    if word == "spelled":
        return (WHOLE, (word, tuple(rows_from(source, ("text", "text")))), ())
    if word == "names":
        return (WHOLE, (word, tuple([row[0] for row in rows_from(source, ("text",))])), ())
    ahead = (word,) + tuple([source.take(kind) for kind in PIECES_OF[word]])
    return (WITHIN if word in WITH_FORMAT else WHOLE, ahead, ())


def figures_from(source):
    """A format of figures behind its word."""
    base = source.take("number")
    sign = source.take("text")
    least = source.take("number") if source.takes_word("least") else 1
    group = (source.take("number"), source.take("text")) if source.takes_word("group") else (0, "")
    ahead = source.take("text") if source.takes_word("ahead") else ""
    return ("figures", base, sign, least) + group + (ahead,)


def rows_from(source, kinds):
    """The list of rows of pieces of these kinds, between brackets and commas."""
    source.take_point("(")
    rows = []
    while not source.is_point(")"):
        if rows:
            source.take_point(",")
        rows.append(tuple([source.take(kind) for kind in kinds]))
    source.take_point(")")
    return rows


def list_formats(word, parts):
    """The format with some formats, and texts, between brackets: in a row the formats get their numbers."""
    if word == "case":
        return (word, tuple(parts))
    numbered = []
    many = 0
    for part in parts:
        if isinstance(part, str):
            numbered.append(part)
        else:
            numbered.append((many, part))
            many += 1
    return (word, tuple(numbered))


def bound_text(bound):
    """A number, or nothing for None."""
    return "" if bound is None else str(bound)


def range_text(low, high):
    """Two numbers, each perhaps None, with two dots between."""
    return bound_text(low) + RANGE + bound_text(high)


def bracketed(texts):
    """Texts between brackets and commas."""
    return "(" + ", ".join(texts) + ")"


def sort_text(sort):
    """A text that is read as a sort."""
    kind = sort[0]
    if kind == "int":
        return f"int {range_text(sort[1], sort[2])}"
    if kind == "word":
        return f"word {quoted(sort[1])} {range_text(sort[2], sort[3])}"
    if kind == "one":
        return f"one {sort[1]}"
    if kind == "maybe":
        return f"maybe {sort_text(sort[1])}"
    if kind == "many":
        return f"many {range_text(sort[2], sort[3])} {sort_text(sort[1])}"
    return f"{kind} {bracketed([sort_text(part) for part in sort[1]])}"


def format_text(format):
    """A text that is read as a format."""
    kind = format[0]
    if kind == "figures":
        return figures_source(format)
    if kind == "spelled":
        pairs = [f"{quoted(sign)} {quoted(text)}" for sign, text in format[1]]
        return f"spelled {bracketed(pairs)}"
    if kind == "names":
        return f"names {bracketed([quoted(text) for text in format[1]])}"
    if kind == "row":
        parts = [quoted(part) if isinstance(part, str) else format_text(part[1]) for part in format[1]]
        return f"row {bracketed(parts)}"
    if kind == "case":
        return f"case {bracketed([format_text(part) for part in format[1]])}"
    words = [kind] + [quoted(told) if isinstance(told, str) else str(told) for told in plain_parts(format)]
    if kind in WITH_FORMAT:
        words.append(format_text(format[-1]))
    return " ".join(words)


def plain_parts(format):
    """The numbers and texts of a format."""
    return format[1:-1] if format[0] in WITH_FORMAT else format[1:]


def figures_source(format):
    """A text that is read as a format of figures."""
    base, sign, least, group, mark, ahead = format[1:]
    words = ["figures", str(base), quoted(sign)]
    if least != 1:
        words.append(f"least {least}")
    if group != 0:
        words.append(f"group {group} {quoted(mark)}")
    if ahead != "":
        words.append(f"ahead {quoted(ahead)}")
    return " ".join(words)
