"""Texts cut into pieces: words, numbers, texts between quotes, brackets, commas and double dots.

A piece is (kind, what it tells, line, column), lines and columns counted from 1. The kinds are
word, number, text, and point for all others.
"""

from readagain.errors import BadSource
from readagain.signs import SIGNS

LETTERS = "abcdefghijklmnopqrstuvwxyz"
TEN_FIGURES = "0123456789"
ONE_SIGN_POINTS = "(),"
RANGE = ".."
QUOTE = "\""
ESCAPE = "\\"
FIGURES_OF_SOURCES = 9
FIGURES_OF_VALUES = 4000


def quoted(text):
    """A text between quotes, as it is read from a source."""
    return QUOTE + "".join([ESCAPE + sign if sign == QUOTE or sign == ESCAPE else sign for sign in text]) + QUOTE


def cut_line(row, line, most):
    """The list of the pieces of a line, whose numbers have so many figures at most."""
    pieces = []
    at = 0
    while at < len(row) and row[at] != "#":
        if row[at] == " ":
            at += 1
        else:
            kind, told, behind = piece_at(row, at, line, most)
            pieces.append((kind, told, line, at + 1))
            at = behind
    return pieces


def piece_at(row, at, line, most):
    """The piece that begins with a sign of a line: its kind, what it tells, where it ends."""
    if row[at] == QUOTE:
        return text_at(row, at + 1, line)
    if row[at] in ONE_SIGN_POINTS:
        return ("point", row[at], at + 1)
    if row[at:at + 2] == RANGE:
        return ("point", RANGE, at + 2)
    if row[at] in LETTERS:
        behind = behind_all(row, at, LETTERS)
        return ("word", row[at:behind], behind)
    begun = at + 1 if row[at] == "-" else at
    behind = behind_all(row, begun, TEN_FIGURES)
    if not are_figures(row[begun:behind], begun > at, most):
        raise BadSource(line, at + 1)
    return ("number", int(row[at:behind]), behind)


def behind_all(row, at, signs):
    """The place behind all signs from at on that are among these."""
    while at < len(row) and row[at] in signs:
        at += 1
    return at


def are_figures(text, is_negative, most):
    """Whether a text of figures is that of a number: at most so many, none ahead that is needless."""
    if text == "0":
        return not is_negative
    return 1 <= len(text) <= most and text[0] != "0"


def text_at(row, at, line):
    """The text between quotes whose first sign stands at a place of a line."""
    signs = []
    while at < len(row) and row[at] != QUOTE:
        is_escaped = row[at] == ESCAPE
        if is_escaped:
            at += 1
        if at < len(row):
            if row[at] not in SIGNS or is_escaped and row[at] != QUOTE and row[at] != ESCAPE:
                raise BadSource(line, at + 1)
            signs.append(row[at])
            at += 1
    if at == len(row):
        raise BadSource(line, at + 1)
    return ("text", "".join(signs), at + 1)


class Source:
    """The pieces of a text, taken one by one; BadSource where one can't stand there.

    first: the number of the text's first line; most: how many figures a number has at most.
    """

    def __init__(self, text, first, most):
        if not isinstance(text, str):
            raise BadSource(0, 0)
        rows = text.split("\n")
        self.pieces = []
        for at, row in enumerate(rows):
            self.pieces.extend(cut_line(row, first + at, most))
        # Where something lacks if all pieces are taken.
        self.last = (first + len(rows) - 1, len(rows[-1]) + 1)
        self.taken = 0

    def is_over(self):
        """Whether all pieces are taken."""
        return self.taken == len(self.pieces)

    def is_kind(self, kind):
        """Whether the next piece is of a kind."""
        return not self.is_over() and self.pieces[self.taken][0] == kind

    def is_point(self, point):
        """Whether the next piece is this bracket, comma, or double dot."""
        return self.is_kind("point") and self.pieces[self.taken][1] == point

    def refuse(self, number):
        """Raise BadSource at the piece with a number, or behind all pieces."""
        line, column = self.last if number == len(self.pieces) else self.pieces[number][2:]
        raise BadSource(line, column)

    def take(self, kind):
        """What the next piece tells, which must be of a kind."""
        if not self.is_kind(kind):
            self.refuse(self.taken)
        self.taken += 1
        return self.pieces[self.taken - 1][1]

    def take_point(self, point):
        """Take the next piece, which must be this bracket, comma, or double dot."""
        if not self.is_point(point):
            self.refuse(self.taken)
        self.taken += 1

    def takes_word(self, word):
        """Whether the next piece is this word, which is taken then."""
        if not self.is_kind("word") or self.pieces[self.taken][1] != word:
            return False
        self.taken += 1
        return True

    def take_one_of(self, words):
        """The next piece, which must be one of these words."""
        word = self.take("word")
        if word not in words:
            self.refuse(self.taken - 1)
        return word

    def number_or_none(self):
        """The next number, None if no number comes next."""
        return self.take("number") if self.is_kind("number") else None

    def finish(self):
        """Raise BadSource unless all pieces are taken."""
        if not self.is_over():
            self.refuse(self.taken)
