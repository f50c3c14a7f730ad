"""[6] Spellings; [7] scores."""

import random
import unittest

from readagain.errors import BadThing
from readagain.formats import plain_format
from readagain.scores import is_mark, marks_of, score, spelling, text_of, unspelled, value_of
from readagain.sorts import is_value
from readagain.writing import write
from tests.making import DIGITS, FIGURES, INT, PRICE, WORD, some_pair, some_values

LETTERS = ("word", "'ab", 0, None)
EXTRA = ("zeros ", "first ", "fills ")


def figures(base, sign="-", least=1, group=0, mark="", ahead=""):
    return ("figures", base, sign, least, group, mark, ahead)


def plain_items(text):
    """A score as told in the tests: pieces between bars, marks in brackets."""
    items = []
    for piece in text.split("|"):
        items.extend([piece[1:-1]] if piece[:1] == "[" else piece)
    return tuple(items)


SCORES = [
    (INT, FIGURES, 0, "[plus]|[figure 0]|0|[stop]"),
    (INT, FIGURES, -17, "[minus]|-|[figure 1]|1|[figure 7]|7|[stop]"),
    (INT, figures(16, "+", 1, 0, "", "0x"), 250, "[plus]|+0x|[figure f]|f|[figure a]|a|[stop]"),
    (INT, figures(10, " ", 4), 17, "[plus]|[zeros 2]| 00|[figure 1]|1|[figure 7]|7|[stop]"),
    (INT, figures(10, "-", 2), 170, "[plus]|[zeros 0]|[figure 1]|1|[figure 7]|7|[figure 0]|0|[stop]"),
    (INT, figures(10, "-", 1, 3, ","), 1234,
     "[plus]|[first 1]|[figure 1]|1|[figure 2]|,2|[figure 3]|3|[figure 4]|4|[stop]"),
    (INT, figures(10, "-", 1, 3, ","), 123, "[plus]|[first 3]|[figure 1]|1|[figure 2]|2|[figure 3]|3|[stop]"),
    (INT, figures(10, "-", 1, 3, ","), 12, "[plus]|[first 2]|[figure 1]|1|[figure 2]|2|[stop]"),
    (INT, figures(10, "-", 7, 3, ",", "#"), -12,
     "[minus]|[zeros 5]|[first 1]|-#0,000,0|[figure 1]|1|[figure 2]|2|[stop]"),
    (INT, figures(10, "-", 4, 2, "."), 12, "[plus]|[zeros 2]|[first 2]|00|[figure 1]|.1|[figure 2]|2|[stop]"),
    (DIGITS, ("powers", 10, "+"), 70, "[plus]|[power 1]|+|[figure 7]|7|[stop]|e1"),
    (DIGITS, ("powers", 2, "-"), 0, "[plus]|[power 0]|[figure 0]|0|[stop]"),
    (("int", -4096, 4096), ("powers", 2, " "), -3072, "[minus]|[power 10]|-|[figure 1]|1|[figure 1]|1|[stop]|e10"),
    (LETTERS, ("plain",), "ab", "[letter a]|a|[letter b]|b|[stop]"),
    (LETTERS, ("plain",), "", "[stop]"),
    (LETTERS, ("spelled", (("a", "xyz"),)), "ab", "[letter a]|xyz|[letter b]|b|[stop]"),
    (LETTERS, ("quoted", "'", "a"), "a'b", "'|[letter a]|aa|[letter ']|a'|[letter b]|b|[stop]|'"),
    (("word", " ", 0, None), ("plain",), " ", "[letter  ]| |[stop]"),
    (("one", 12), ("names", ("",) * 11 + ("ab",)), 11, "[name 11]|ab"),
    (("maybe", DIGITS), ("maybe", "no", FIGURES), None, "[none]|no"),
    (("maybe", DIGITS), ("maybe", "no", FIGURES), ("some", 1), "[some]|[plus]|[figure 1]|1|[stop]"),
    (("row", (DIGITS, LETTERS)), ("row", ("<", (0, FIGURES), ", ", (1, ("plain",)), ">")), (1, "a"),
     "<|[plus]|[figure 1]|1|[stop]|, |[letter a]|a|[stop]|>"),
    (("many", ("one", 2), 0, None), ("many", "-", "((", ";", ")", ("names", ("no", "y"))), (), "[stop]|-"),
    (("many", ("one", 2), 0, None), ("many", "-", "((", ";", ")", ("names", ("no", "y"))), (1, 0, 1),
     "[more]|((|[name 1]|y|[more]|;|[name 0]|no|[more]|;|[name 1]|y|[stop]|)"),
    (("case", (DIGITS, LETTERS)), ("case", (FIGURES, ("plain",))), (1, "a"), "[case 1]|[letter a]|a|[stop]"),
    (DIGITS, ("pad", 2, "0", ">", FIGURES), 7, "[fills 1]|0|[plus]|[figure 7]|7|[stop]"),
    (DIGITS, ("pad", 4, ".", "^", FIGURES), 7, "[fills 3]|.|[plus]|[figure 7]|7|[stop]|.."),
    (DIGITS, ("pad", 4, ".", "<", FIGURES), 70, "[fills 2]|[plus]|[figure 7]|7|[figure 0]|0|[stop]|.."),
    (DIGITS, ("pad", 1, ".", "<", FIGURES), 70, "[fills 0]|[plus]|[figure 7]|7|[figure 0]|0|[stop]"),
    (DIGITS, ("cut", 1, FIGURES), 70, "[plus]|[figure 7]|7|[figure 0]|[stop]"),
    (DIGITS, ("cut", 0, FIGURES), 70, "[plus]|[figure 7]|[figure 0]|[stop]"),
    (DIGITS, ("cut", 2, ("pad", 4, ".", ">", FIGURES)), 70, "[fills 2]|..|[plus]|[figure 7]|[figure 0]|[stop]"),
    (DIGITS, ("pad", 2, ".", "<", ("cut", 1, FIGURES)), 70, "[fills 1]|[plus]|[figure 7]|7|[figure 0]|[stop]|."),
    (DIGITS, ("pad", 3, ".", "<", ("pad", 2, "-", ">", FIGURES)), 7, "[fills 1]|[fills 1]|-|[plus]|[figure 7]|7|[stop]|."),
    (DIGITS, ("checked", 11, 3, FIGURES), 70, "[plus]|[figure 7]|7|[figure 0]|0|[stop]|7"),
    (DIGITS, ("checked", 11, 3, ("pad", 3, "1", ">", FIGURES)), 7, "[fills 2]|11|[plus]|[figure 7]|7|[stop]|1"),
    (("row", (DIGITS, ("maybe", LETTERS))), ("skip",), (70, ("some", "a")),
     "[plus]|[figure 7]|[figure 0]|[stop]|[some]|[letter a]|[stop]"),
    (DIGITS, ("pad", 2, "*", "<", ("skip",)), 7, "[fills 2]|[plus]|[figure 7]|[stop]|**"),
]


class Scores(unittest.TestCase):
    def test_examples(self):
        self.assertEqual(score(("int", 0, 99), ("pad", 2, "0", ">", FIGURES), 7),
                         ("fills 1", "0", "plus", "figure 7", "7", "stop"))
        self.assertEqual(
            (spelling(("maybe", WORD), ("maybe", "-", ("plain",)), ("some", "a")),
             unspelled(WORD, ("plain",), ("letter b", "stop"))), (("some", "letter a", "stop"), "b"))

    def test_scores_in_detail(self):
        for sort, format, value, told in SCORES:
            with self.subTest((format, value)):
                items = plain_items(told)
                self.assertTrue(is_value(sort, value))
                self.assertEqual(score(sort, format, value), items)
                self.assertEqual(text_of(items), write(sort, format, value))
                marks = tuple(item for item in items if len(item) > 1 and not item.startswith(EXTRA))
                self.assertEqual(marks_of(items), marks)
                self.assertEqual(spelling(sort, format, value), marks)
                self.assertEqual(value_of(sort, format, items), value)
                self.assertEqual(unspelled(sort, format, marks), value)

    def test_a_skipped_value_is_spelled_by_the_plain_format(self):
        rng = random.Random(6)
        for _ in range(100):
            sort, _ = some_pair(rng, True)
            for value in some_values(rng, sort, 10):
                plain = spelling(sort, plain_format(sort), value)
                self.assertEqual(spelling(sort, ("skip",), value), plain)
                self.assertEqual(score(sort, ("skip",), value), plain)

    def test_many_formats(self):
        rng = random.Random(7)
        for _ in range(300):
            sort, format = some_pair(rng, True, rng.choice((2, 3, 4)))
            told = {}
            for value in some_values(rng, sort, 20):
                items = score(sort, format, value)
                marks = spelling(sort, format, value)
                self.assertIsInstance(items, tuple)
                self.assertEqual(text_of(items), write(sort, format, value))
                self.assertEqual(marks_of(items), marks)
                self.assertEqual(value_of(sort, format, items), value)
                self.assertEqual(unspelled(sort, format, marks), value)
                told[marks] = items
            rows = sorted(told)
            for one, other in zip(rows, rows[1:]):
                self.assertNotEqual(other[:len(one)], one)

    def test_is_mark(self):
        self.assertEqual([is_mark(item) for item in ("a", "ab", " ", "stop", "letter a")],
                         [False, True, False, True, True])

    def test_a_great_integer(self):
        marks = ("minus", "figure 1") + ("figure 0",) * 5000 + ("stop",)
        self.assertEqual(unspelled(INT, FIGURES, marks), -10 ** 5000)
        self.assertEqual(spelling(INT, FIGURES, -10 ** 5000), marks)


class NoSpellings(unittest.TestCase):
    def wrong(self, told_by, sort, format, thing):
        with self.subTest((told_by.__name__, format, repr(thing)[:200])):
            with self.assertRaises(BadThing) as caught:
                told_by(sort, format, thing)
            self.assertIs(caught.exception.thing, thing)

    def test_changed_rows(self):
        rng = random.Random(8)
        for sort, format, value, told in SCORES:
            items = plain_items(told)
            for told_by, row in ((value_of, items), (unspelled, marks_of(items))):
                write_again = score if told_by == value_of else spelling
                for at in range(len(row) + 1):
                    self.changed(told_by, write_again, sort, format, row[:at] + row[at + 1:], row)
                    for item in ("a", "0", "stop", "figure 0", "fills 0", rng.choice(row)):
                        self.changed(told_by, write_again, sort, format, row[:at] + (item,) + row[at:], row)
                        self.changed(told_by, write_again, sort, format, row[:at] + (item,) + row[at + 1:], row)
                self.wrong(told_by, sort, format, list(row))
                self.wrong(told_by, sort, format, row + (None,))
                self.wrong(told_by, sort, format, row + ("",))
                self.wrong(told_by, sort, format, ("",) + row)
                self.wrong(told_by, sort, format, (row,))
                self.wrong(told_by, sort, format, "".join(row))
                self.wrong(told_by, sort, format, ())

    def changed(self, told_by, write_again, sort, format, thing, row):
        """A changed row is that of another value, or of none."""
        if thing == row:
            return
        try:
            value = told_by(sort, format, thing)
        except BadThing as error:
            self.assertIs(error.thing, thing)
        else:
            self.assertTrue(is_value(sort, value))
            self.assertEqual(write_again(sort, format, value), thing)

    def test_things_that_are_none(self):
        for thing in (None, 0, True, (), [], "", "stop", ("stop",), (1,), (("stop",),), {"stop": 1}, b"stop", {1},
                      ("plus",), ("plus", "stop"), ("plus", "figure", "stop"), ("plus", "figure ", "stop"),
                      ("plus", "figure a", "stop"), ("plus", "figure 00", "stop"), ("plus", "figure 0", "figure 1", "stop"),
                      ("minus", "figure 0", "stop"), ("plus", "figure 1"), ("plus", "figure 1", "stop", "stop"),
                      ("figure 1", "stop"), ("plus", "minus", "figure 1", "stop"), ["plus", "figure 1", "stop"],
                      ("plus", "figure 1", None), ("plus", ["figure 1"], "stop"), ("plus", "figure ", "1", "stop")):
            for format in (FIGURES, ("pad", 2, "0", "<", FIGURES), ("skip",)):
                self.wrong(unspelled, INT, format, thing)
                self.wrong(value_of, INT, format, thing)

    def test_values_that_the_sort_has_not(self):
        self.wrong(unspelled, DIGITS, FIGURES, ("plus", "figure 1", "figure 0", "figure 0", "stop"))
        self.wrong(unspelled, DIGITS, FIGURES, ("minus", "figure 1", "stop"))
        self.wrong(unspelled, WORD, ("plain",), ("letter c", "stop"))
        self.wrong(unspelled, WORD, ("plain",), ("letter a",) * 3 + ("stop",))
        self.wrong(unspelled, WORD, ("plain",), ("letter ab", "stop"))
        self.wrong(unspelled, ("one", 2), ("names", ("a", "b")), ("name 2",))
        self.wrong(unspelled, ("one", 2), ("names", ("a", "b")), ("name 01",))
        self.wrong(unspelled, ("one", 2), ("names", ("a", "b")), ("name -1",))
        self.wrong(unspelled, ("maybe", WORD), ("skip",), ("some",))
        self.wrong(unspelled, ("maybe", WORD), ("skip",), ("none", "none"))
        self.wrong(unspelled, ("many", WORD, 1, 2), ("skip",), ("stop",))
        self.wrong(unspelled, ("many", WORD, 1, 2), ("skip",), ("more", "stop") * 3 + ("stop",))
        self.wrong(unspelled, ("case", (WORD,)), ("skip",), ("case 1", "stop"))
        self.wrong(unspelled, PRICE, ("skip",), ("plus", "figure 1", "stop"))

    def test_powers_that_are_none(self):
        sort, format = ("int", 0, 999), ("powers", 10, "-")
        for marks in (("plus", "power 0", "figure 1", "figure 0", "stop"), ("plus", "power 1", "figure 0", "stop"),
                      ("plus", "power 3", "figure 1", "stop"), ("plus", "power 00", "figure 1", "stop"),
                      ("plus", "power 99999999999999", "figure 1", "stop"), ("plus", "power -1", "figure 1", "stop"),
                      ("plus", "power", "figure 1", "stop"), ("plus", "figure 1", "stop"), ("plus", "power 0", "stop"),
                      ("plus", "power 0", "figure 0", "figure 1", "stop"), ("minus", "power 0", "figure 0", "stop")):
            self.wrong(unspelled, sort, format, marks)
        self.assertEqual(unspelled(sort, format, ("plus", "power 2", "figure 9", "stop")), 900)


if __name__ == "__main__":
    unittest.main()
