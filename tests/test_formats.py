"""[4] Formats of a sort; [6] the plain format."""

import unittest

from readagain.errors import BadFormat
from readagain.formats import check_format, is_format, plain_format
from readagain.sorts import is_sort
from tests.making import DIGITS, FIGURES, INT, PRICE, TIGHT, WORD
from tests.test_sorts import RIGHT as SORTS
from tests.test_sorts import STRANGE

ONE = ("one", 2)
NAMES = ("names", ("no", "yes"))
PLAIN = ("plain",)
MAYBE, MANY, ROW, CASE = ("maybe", ONE), ("many", ONE, 0, None), ("row", (ONE, DIGITS)), ("case", (ONE, DIGITS))
HALF, UPPER = ("int", 0, None), ("int", None, 0)


def figures(**changed):
    told = {"base": 10, "sign": "-", "least": 1, "group": 0, "mark": "", "ahead": ""}
    told.update(changed)
    return ("figures",) + tuple(told.values())


def grouped(**changed):
    return figures(**{"group": 3, "mark": ",", **changed})


RIGHT = {
    INT: [
        figures(), figures(base=2), figures(base=16), figures(sign="+"), figures(sign=" "), figures(least=12),
        grouped(), grouped(group=2), grouped(group=4), grouped(mark="a"), grouped(base=16, mark="g"),
        grouped(base=16, mark="A"), grouped(base=2, mark="2"), grouped(base=8, mark="8"), grouped(mark="-"),
        figures(ahead="0x"), figures(ahead=" ~!9")],
    HALF: [figures()],
    DIGITS: [("powers", 2, "-"), ("powers", 10, "+"), ("powers", 3, " "), figures()],
    WORD: [
        PLAIN, ("spelled", ()), ("spelled", (("a", "x"),)), ("spelled", (("a", "b"), ("b", "abcd"), ("z", "a"))),
        ("spelled", ((" ", "!"), ("!", " "))), ("quoted", "'", "a"), ("quoted", "a", "b"), ("quoted", " ", "~")],
    ONE: [NAMES, ("names", ("", "")), ("names", ("abcdefgh", "a"))],
    MAYBE: [("maybe", "", NAMES), ("maybe", "12345678", NAMES)],
    ROW: [
        ("row", ((0, NAMES), (1, FIGURES))), ("row", ("a", (0, NAMES), "12345678", "b", (1, FIGURES), "c")),
        ("row", ("a",) * 5 + ((0, NAMES), (1, FIGURES)) + ("b",) * 6)],
    ("row", ()): [("row", ()), ("row", ("a",)), ("row", ("a",) * 13)],
    MANY: [("many", "", "", "", "", NAMES), ("many", "1234", "abcd", "    ", "~~~~", NAMES)],
    CASE: [("case", (NAMES, FIGURES))],
}

WRONG = {
    INT: [
        figures(base=1), figures(base=17), figures(base=True), figures(base="2"), figures(base=None),
        figures(sign=""), figures(sign="--"), figures(sign="-+"), figures(sign="x"), figures(sign=None),
        figures(sign=["-"]), figures(least=0), figures(least=13), figures(least=True), figures(least="1"),
        figures(group=True, mark=","), grouped(group=1), grouped(group=5), grouped(group=-2), grouped(group="3"),
        figures(group=False), figures(mark=","), figures(mark=None), grouped(mark=""), grouped(mark="9"),
        grouped(mark="0"), grouped(mark=",,"), grouped(mark="%"), grouped(base=16, mark="f"), grouped(base=2, mark="1"),
        grouped(base=11, mark="a"), grouped(mark=None), figures(ahead="12345"), figures(ahead="%"), figures(ahead=None),
        figures(ahead=("a",)), figures()[:6], figures() + ("",), list(figures()),
        ("powers", 10, "-"), PLAIN, NAMES, ("maybe", "", FIGURES), ("row", ((0, FIGURES),)),
        ("many", "", "", "", "", FIGURES), ("case", (FIGURES,))],
    HALF: [("powers", 10, "-")],
    UPPER: [("powers", 10, "-")],
    DIGITS: [
        ("powers", 1, "-"), ("powers", 11, "-"), ("powers", True, "-"), ("powers", 10, ""), ("powers", 10, "*"),
        ("powers", 10), ("powers", 10, "-", 1), ["powers", 10, "-"], ("powers", "2", "-"), ("powers", 10, None)],
    WORD: [
        ("plain", ""), ["plain"], FIGURES, ("spelled",), ("spelled", [("a", "x")]), ("spelled", (["a", "x"],)),
        ("spelled", (("a", ""),)), ("spelled", (("a", "12345"),)), ("spelled", (("ab", "x"),)),
        ("spelled", (("", "x"),)), ("spelled", (("b", "x"), ("a", "x"))), ("spelled", (("a", "x"), ("a", "y"))),
        ("spelled", (("a", "%"),)), ("spelled", (("%", "a"),)), ("spelled", (("a",),)), ("spelled", (("a", "x", "y"),)),
        ("spelled", ("ax",)), ("spelled", (("a", None),)), ("spelled", ((1, "x"),)), ("spelled", (), ()),
        ("spelled", None), ("quoted", "'", "'"), ("quoted", "''", "a"), ("quoted", "'", ""), ("quoted", "", "'"),
        ("quoted", "%", "a"), ("quoted", "a", "%"), ("quoted", "'"), ("quoted", "'", "a", "b"), ("quoted", 1, "a"),
        ("quoted", None, None), ["quoted", "'", "a"], NAMES],
    ONE: [
        ("names", ("no",)), ("names", ("a", "b", "c")), ("names", ["no", "yes"]), ("names", ("no", "123456789")),
        ("names", ("no", "%")), ("names", ("no", None)), ("names", ("no", 1)), ("names", "no"), ("names",),
        ("names", ("no", "yes"), 1), ["names", ("no", "yes")], FIGURES, PLAIN, ("names", ("no", ["yes"]))],
    MAYBE: [
        ("maybe", "123456789", NAMES), ("maybe", "%", NAMES), ("maybe", None, NAMES), ("maybe", "", FIGURES),
        ("maybe", "", None), ("maybe", ""), ("maybe", NAMES), ("maybe", "", NAMES, NAMES), ["maybe", "", NAMES],
        ("maybe", "", list(NAMES)), NAMES],
    ROW: [
        ("row", ((0, NAMES),)), ("row", ((1, FIGURES), (0, NAMES))), ("row", ((0, NAMES), (1, FIGURES), (1, FIGURES))),
        ("row", ((0, NAMES), (0, NAMES), (1, FIGURES))), ("row", ((0, FIGURES), (1, NAMES))),
        ("row", ("", (0, NAMES), (1, FIGURES))), ("row", ("123456789", (0, NAMES), (1, FIGURES))),
        ("row", ("%", (0, NAMES), (1, FIGURES))), ("row", ("a",) * 6 + ((0, NAMES), (1, FIGURES)) + ("b",) * 6),
        ("row", [(0, NAMES), (1, FIGURES)]), ("row", ([0, NAMES], (1, FIGURES))), ("row", ((False, NAMES), (1, FIGURES))),
        ("row", ((0, NAMES), (True, FIGURES))), ("row", ((0, NAMES), (1, FIGURES), (2, FIGURES))),
        ("row", ((0, NAMES), (1, FIGURES), None)), ("row", ((0, NAMES), (1, FIGURES, 1))), ("row", ((0, NAMES), (1,))),
        ("row", ((0, NAMES), (-1, FIGURES))), ("row", ((0, NAMES), ("1", FIGURES))), ("row",), ("row", (), ()),
        ["row", ((0, NAMES), (1, FIGURES))], ("row", (NAMES, FIGURES)), ("row", ())],
    ("row", ()): [("row", ("a",) * 14), ("row", ("",)), ("row", ((0, FIGURES),)), ("row", None), ("row", "a")],
    MANY: [
        ("many", "12345", "", "", "", NAMES), ("many", "", "12345", "", "", NAMES), ("many", "", "", "12345", "", NAMES),
        ("many", "", "", "", "12345", NAMES), ("many", "%", "", "", "", NAMES), ("many", "", "", "", None, NAMES),
        ("many", "", "", "", "", FIGURES), ("many", "", "", "", NAMES), ("many", "", "", "", "", NAMES, NAMES),
        ["many", "", "", "", "", NAMES], ("many", "", 1, "", "", NAMES), ("many", "", "", (), "", NAMES)],
    CASE: [
        ("case", (NAMES,)), ("case", (FIGURES, NAMES)), ("case", (NAMES, FIGURES, FIGURES)), ("case", [NAMES, FIGURES]),
        ("case",), ("case", NAMES, FIGURES), ["case", (NAMES, FIGURES)], ("case", (NAMES, None)), ("case", ())],
}


def wraps(within):
    """Right formats of any sort that have another one within them."""
    return [
        ("pad", 0, "0", "<", within), ("pad", 8, " ", ">", within), ("pad", 3, "~", "^", within), ("cut", 0, within),
        ("cut", 8, within), ("checked", 2, 1, within), ("checked", 16, 15, within), ("checked", 11, 10, within)]


def wrong_wraps(within):
    """The same with one thing wrong."""
    return [
        ("pad", -1, "0", "<", within), ("pad", 9, "0", "<", within), ("pad", True, "0", "<", within),
        ("pad", "3", "0", "<", within), ("pad", 3, "", "<", within), ("pad", 3, "00", "<", within),
        ("pad", 3, "%", "<", within), ("pad", 3, 0, "<", within), ("pad", 3, "0", "=", within),
        ("pad", 3, "0", "", within), ("pad", 3, "0", "<>", within), ("pad", 3, "0", None, within),
        ("pad", 3, "0", within), ("pad", 3, "0", "<", within, 1), ["pad", 3, "0", "<", within],
        ("pad", 3, "0", "<", None), ("pad", 3, "0", "<", list(within)), ("pad", 3, "0", "<", (within,)),
        ("cut", -1, within), ("cut", 9, within), ("cut", False, within), ("cut", None, within), ("cut", within),
        ("cut", 1, within, 1), ["cut", 1, within], ("cut", 1, None), ("cut", 1.0, within),
        ("checked", 1, 1, within), ("checked", 17, 1, within), ("checked", 7, 0, within), ("checked", 7, 7, within),
        ("checked", 2, True, within), ("checked", True, 1, within), ("checked", 7, 8, within),
        ("checked", 7, -1, within), ("checked", 7, within), ("checked", 7, 1, within, 1), ["checked", 7, 1, within],
        ("checked", 7, 1, None), ("checked", 7, 1.0, within), ("checked", "7", 1, within),
        ("skip", within), ("skip", None), ["skip"], ("skipped",), ("padded", 3, "0", "<", within)]


class Formats(unittest.TestCase):
    def yes(self, sort, thing):
        with self.subTest((sort, thing)):
            self.assertTrue(is_sort(sort))
            self.assertIs(is_format(sort, thing), True)
            self.assertIsNone(check_format(sort, thing))

    def no(self, sort, thing):
        with self.subTest((sort, repr(thing))):
            self.assertTrue(is_sort(sort))
            self.assertIs(is_format(sort, thing), False)
            with self.assertRaises(BadFormat) as caught:
                check_format(sort, thing)
            self.assertTrue(hasattr(caught.exception, "thing"))

    def test_examples(self):
        self.assertEqual((is_format(("int", 0, 9), FIGURES), is_format(WORD, FIGURES), plain_format(("maybe", WORD))),
                         (True, False, ("maybe", "", ("plain",))))

    def test_right_ones(self):
        for sort, formats in RIGHT.items():
            for format in formats:
                self.yes(sort, format)
                self.yes(sort, ("skip",))
                for wrapped in wraps(format):
                    self.yes(sort, wrapped)

    def test_ones_with_something_wrong(self):
        for sort, things in WRONG.items():
            for thing in things:
                self.no(sort, thing)
                self.no(sort, ("cut", 1, thing))
                self.no(("maybe", sort), ("maybe", "", thing))
                self.no(("row", (sort,)), ("row", ((0, thing),)))
                self.no(("many", sort, 0, 1), ("many", "", "", "", "", thing))
                self.no(("case", (ONE, sort)), ("case", (NAMES, thing)))

    def test_wrong_formats_around_others(self):
        for sort, formats in RIGHT.items():
            for thing in wrong_wraps(formats[0]) + STRANGE:
                self.no(sort, thing)

    def test_a_format_of_another_sort(self):
        for sort, formats in RIGHT.items():
            for other in RIGHT:
                if other[0] != sort[0]:
                    self.no(other, formats[0])

    def test_how_deep(self):
        format = FIGURES
        for _ in range(6):
            self.yes(DIGITS, format)
            format = ("cut", 3, format)
        self.yes(DIGITS, format)
        self.no(DIGITS, ("cut", 3, format))
        skipped = ("skip",)
        for _ in range(6):
            skipped = ("pad", 3, "0", "<", skipped)
        self.yes(PRICE, skipped)
        self.no(PRICE, ("checked", 7, 2, skipped))
        for _ in range(100000):
            format = ("cut", 3, format)
        self.assertFalse(is_format(DIGITS, format))
        with self.assertRaises(BadFormat):
            check_format(DIGITS, format)
        self.yes(("maybe", ("maybe", ("maybe", DIGITS))),
                 ("cut", 1, ("maybe", "", ("cut", 1, ("maybe", "", ("cut", 1, ("maybe", "", FIGURES)))))))
        self.no(("maybe", ("maybe", ("maybe", DIGITS))),
                ("cut", 1, ("maybe", "", ("cut", 1, ("maybe", "", ("cut", 1, ("maybe", "", ("cut", 1, FIGURES))))))))

    def test_how_many_in_all(self):
        sort = ("row", (DIGITS,) * 6)

        def row(*many):
            parts = []
            for at in range(6):
                format = FIGURES
                for _ in range(many[at]):
                    format = ("cut", 3, format)
                parts.append((at, format))
            return ("row", tuple(parts))

        self.yes(sort, row(5, 5, 5, 5, 5, 0))
        self.no(sort, row(5, 5, 5, 5, 5, 1))
        self.yes(sort, ("cut", 1, row(4, 4, 4, 4, 4, 4)))
        self.no(sort, ("cut", 1, row(5, 4, 4, 4, 4, 4)))
        self.yes(sort, row(5, 5, 5, 5, 3, 2))
        self.no(sort, row(5, 5, 5, 5, 3, 3))

    def test_tight(self):
        self.yes(PRICE, TIGHT)


class Plain(unittest.TestCase):
    def test_plain_formats(self):
        cases = [
            (INT, FIGURES), (DIGITS, FIGURES), (WORD, PLAIN), (("one", 3), ("names", ("", "", ""))),
            (MANY, ("many", "", "", "", "", ("names", ("", "")))), (("row", ()), ("row", ())),
            (ROW, ("row", ((0, ("names", ("", ""))), (1, FIGURES)))),
            (CASE, ("case", (("names", ("", "")), FIGURES))),
            (("maybe", ("many", WORD, 0, 1)), ("maybe", "", ("many", "", "", "", "", PLAIN)))]
        for sort, format in cases:
            with self.subTest(sort):
                self.assertEqual(plain_format(sort), format)

    def test_they_are_formats(self):
        for sort in SORTS:
            with self.subTest(sort):
                self.assertTrue(is_format(sort, plain_format(sort)))


if __name__ == "__main__":
    unittest.main()
