"""A shell that answers lines of a sort and a format."""

from readagain.alike import compared
from readagain.alone import standing
from readagain.counting import how_many, lengths, value_at
from readagain.errors import (
    BadDeed, BadFormat, BadPair, BadSource, BadText, BadThing, ManyValues, TooLarge)
from readagain.formats import check_format
from readagain.mending import corrected
from readagain.nearest import nearest
from readagain.pieces import FIGURES_OF_SOURCES, FIGURES_OF_VALUES, Source, quoted
from readagain.plainvalues import value_from, value_text
from readagain.reading import read, values_of
from readagain.reports import report
from readagain.resync import resync
from readagain.shelves import Shelf
from readagain.slips import slips, swaps
from readagain.sorts import check_sort
from readagain.sources import format_from, format_text, range_text, sort_from, sort_text
from readagain.streams import lookahead
from readagain.sure import rewritten, sure_marks
from readagain.verdicts import verdict
from readagain.writing import write

# The words of deeds, in the order of their numbers.
DEED_WORDS = ("put", "take", "move", "undo", "redo")
# What stands behind each word of a line.
ARGUMENTS = {
    "verdict": (),
    "alone": (),
    "swaps": (),
    "late": (),
    "lost": (),
    "slips": (),
    "lengths": (),
    "report": (),
    "write": ("value",),
    "read": ("text",),
    "values": ("text",),
    "sure": ("text",),
    "nearest": ("text",),
    "mend": ("text",),
    "count": ("number",),
    "nth": ("number",),
    "alike": ("format",),
    "rewrite": ("text", "format"),
    "put": ("text", "value"),
    "take": ("text",),
    "move": ("text", "text"),
    "undo": (),
    "redo": (),
    "torn": ("number",),
    "tell": ("text",),
    "names": (),
    "log": (),
}


def answer_verdict(sort, format, _):
    """Whether each value can be told from its text."""
    return verdict(sort, format)[0]


def answer_alone(sort, format, _):
    """Whether texts stand alone."""
    return standing(sort, format)[0]


def answer_swaps(sort, format, _):
    """Whether exchanged neighbours are seen."""
    return swaps(sort, format)[0]


def with_number(told):
    """The first word of what is told, and the number behind it where the word is one of a number."""
    return f"{told[0]} {told[1]}" if told[0] == "known" or told[0] == "settled" or told[0] == "slips" else told[0]


def answer_late(sort, format, _):
    """How many signs late first values are known."""
    return with_number(lookahead(sort, format))


def answer_lost(sort, format, _):
    """How many signs a reader from anywhere must see."""
    return with_number(resync(sort, format))


def answer_slips(sort, format, _):
    """In how many signs texts differ."""
    return with_number(slips(sort, format))


def answer_lengths(sort, format, _):
    """How many signs texts have."""
    fewest, greatest = lengths(sort, format)
    return "lengths " + range_text(fewest, greatest)


def answer_report(sort, format, _):
    """All that is told in a few words."""
    return "; ".join([f"{word} {told_word(told)}" for word, told in report(sort, format)])


def told_word(told):
    """What a report tells, as a word."""
    if told is None:
        return "none"
    if isinstance(told, bool):
        return "yes" if told else "no"
    return range_text(told[0], told[1]) if isinstance(told, tuple) else str(told)


def answer_write(sort, format, told):
    """The text of a value."""
    return quoted(write(sort, format, told[0]))


def answer_read(sort, format, told):
    """The value of a text."""
    return value_text(sort, read(sort, format, told[0]))


def answer_values(sort, format, told):
    """All values of a text."""
    values = values_of(sort, format, told[0])
    return "endless" if values is None else "; ".join([value_text(sort, value) for value in values])


def answer_sure(sort, format, told):
    """The marks that are sure."""
    return " ".join(("sure",) + sure_marks(sort, format, told[0]))


def answer_nearest(sort, format, told):
    """How many changes lead to a text of the format."""
    return f"changes {nearest(sort, format, told[0])[0]}"


def answer_mend(sort, format, told):
    """How many signs are wrong, and whether just one value has so few."""
    many, values = corrected(sort, format, told[0])
    if many is None:
        return "none"
    return f"wrong {many} sure" if values is not None and len(values) == 1 else f"wrong {many}"


def answer_count(sort, format, told):
    """How many values have a text of a length."""
    return f"count {how_many(sort, format, told[0])}"


def answer_nth(sort, format, told):
    """The value with a number."""
    return value_text(sort, value_at(sort, format, told[0]))


def answer_alike(sort, format, told):
    """Whether another format writes alike."""
    return compared(sort, format, told[0])[0]


def answer_rewrite(sort, format, told):
    """The other format's text."""
    text, other = told
    return quoted(rewritten(sort, format, other, text))


ANSWERS = {
    "verdict": answer_verdict,
    "alone": answer_alone,
    "swaps": answer_swaps,
    "late": answer_late,
    "lost": answer_lost,
    "slips": answer_slips,
    "lengths": answer_lengths,
    "report": answer_report,
    "write": answer_write,
    "read": answer_read,
    "values": answer_values,
    "sure": answer_sure,
    "nearest": answer_nearest,
    "mend": answer_mend,
    "count": answer_count,
    "nth": answer_nth,
    "alike": answer_alike,
    "rewrite": answer_rewrite,
}


class Shell:
    """Answers lines of a sort and a format, and keeps a shelf."""

    def __init__(self, text):
        source = Source(text, 1, FIGURES_OF_SOURCES)
        sort = sort_from(source)
        format = format_from(source)
        source.finish()
        check_sort(sort)
        check_format(sort, format)
        self._kept_sort = sort
        self._kept_format = format
        # Not every format can be shelved, so there is no shelf before it is asked for.
        self._shelf = None

    def answer(self, line):
        """The answer to a line, also if it is wrong."""
        try:
            return self.told_by(line)
        except BadSource as wrong:
            return f"what? {wrong.column}"
        except BadText as unread:
            return f"no text, at {unread.place}"
        except ManyValues:
            return "several values"
        except BadDeed:
            return "no"
        except (BadFormat, BadThing, BadPair):
            return "not so"
        except TooLarge:
            return "too large"

    def told_by(self, line):
        """The answer to a line; an error if it is wrong, or can't be answered."""
        source = Source(line, 1, FIGURES_OF_VALUES)
        word = source.take_one_of(list(ARGUMENTS))
        told = [self.argument_from(source, kind) for kind in ARGUMENTS[word]]
        source.finish()
        if "format" in ARGUMENTS[word]:
            check_format(self._kept_sort, told[-1])
        if word in ANSWERS:
            answerer = ANSWERS[word]
            return answerer(self._kept_sort, self._kept_format, told)
        if self._shelf is None:
            self._shelf = Shelf(self._kept_sort, self._kept_format, "")
        return self.told_by_shelf(word, told)

    def argument_from(self, source, kind):
        """What the next pieces tell."""
        if kind == "value":
            return value_from(self._kept_sort, source)
        return format_from(source) if kind == "format" else source.take(kind)

    def told_by_shelf(self, word, told):
        """The answer to a line that is about the shelf."""
        if word == "names":
            return " ".join(("names",) + self._shelf.names())
        if word == "log":
            return "log " + quoted(self._shelf.log().text)
        if word == "tell":
            return value_text(self._kept_sort, self._shelf.value_of(told[0]))
        if word == "torn":
            self._shelf = self._shelf.torn(told[0])
        else:
            self._shelf.do((DEED_WORDS.index(word), tuple(told)))
        return f"done {len(self._shelf.log())}"


def run_lines(text, lines):
    """The list of the answers of a new shell."""
    shell = Shell(text)
    return [shell.answer(line) for line in lines]


def described(sort, format):
    """A text for a shell."""
    return sort_text(sort) + " " + format_text(format)
