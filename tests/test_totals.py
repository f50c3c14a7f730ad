"""[28] What is told of the texts of all values together."""

import random
import unittest
from collections import Counter
from fractions import Fraction
from unittest import mock

from readagain.errors import BadThing, TooLarge
from readagain.sorts import how_many_values
from readagain.totals import how_long, how_often, mean_length, shortest_form
from readagain.writing import write
from tests.making import DIGITS, FIGURES, INT, PADDED, TWO, WORD, all_values, some_format, some_pair, some_sort
from tests.test_machines import BOUNDED, FINITE

HUGE = ("checked", 16, 5, FIGURES)
BILLION = ("int", 0, 999999999)
# Sorts of endless many values, some of them with a format that is too large besides.
ENDLESS = [
    (INT, FIGURES), (("int", 0, None), FIGURES), (("int", None, 0), FIGURES), (("word", "a", 0, None), ("plain",)),
    (("many", ("row", ()), 0, None), ("many", "", "", "", "", ("row", ()))), (("maybe", INT), ("maybe", "", FIGURES)),
    (("row", (DIGITS, INT)), ("row", ((0, FIGURES), (1, FIGURES)))), (("case", (WORD, INT)), ("case", (("plain",), FIGURES))),
    (("many", INT, 1, 2), ("many", "", "", "", "", FIGURES)), (("many", INT, 0, 2), ("many", "", "", "", "", HUGE)), (INT, HUGE),
    (INT, ("skip",)), (("word", "ab", 0, None), ("cut", 1, ("plain",)))]


class Totals(unittest.TestCase):
    def right(self, sort, format, texts):
        lengths = Counter(map(len, texts))
        signs = Counter("".join(texts))
        told = how_long(sort, format)
        self.assertEqual(list(told.items()), sorted(lengths.items()))
        often = how_often(sort, format)
        self.assertEqual(list(often.items()), sorted(signs.items()))
        self.assertIs(type(told), dict)
        self.assertIs(type(often), dict)
        mean = mean_length(sort, format)
        wanted = Fraction(sum(map(len, texts)), len(texts))
        self.assertEqual(mean, (wanted.numerator, wanted.denominator))
        self.assertIs(type(mean), tuple)

    def test_examples(self):
        self.assertEqual(
            (how_long(DIGITS, FIGURES), how_often(("int", 8, 11), FIGURES), mean_length(DIGITS, FIGURES), shortest_form(DIGITS, (TWO, FIGURES))),
            ({1: 10, 2: 90}, {"0": 1, "1": 3, "8": 1, "9": 1}, (19, 10), 1))

    def test_formats_of_all_kinds(self):
        rng = random.Random(211)
        tried = 0
        drawn = [some_pair(rng, False, rng.choice((1, 2, 3, 4))) for _ in range(300)]
        for sort, format in FINITE + drawn:
            if how_many_values(sort) is not None and how_many_values(sort) <= 3000:
                with self.subTest((sort, format)):
                    try:
                        self.right(sort, format, [write(sort, format, value) for value in all_values(sort)])
                        tried += 1
                    except TooLarge:
                        pass
        self.assertGreater(tried, 150)

    def test_texts_without_signs(self):
        for sort, format in ((("row", ()), ("row", ())), (DIGITS, ("skip",)), (DIGITS, ("cut", 0, FIGURES)), (("one", 3), ("names", ("",) * 3))):
            many = how_many_values(sort)
            self.assertEqual((how_long(sort, format), how_often(sort, format), mean_length(sort, format)), ({0: many}, {}, (0, 1)))

    def test_values_with_one_text_all_count(self):
        self.assertEqual(how_long(("one", 3), ("names", ("a", "a", "bc"))), {1: 2, 2: 1})
        self.assertEqual(how_often(("one", 3), ("names", ("a", "a", "bc"))), {"a": 2, "b": 1, "c": 1})
        self.assertEqual(mean_length(("one", 3), ("names", ("a", "a", "bc"))), (4, 3))

    def test_more_values_than_can_be_listed(self):
        self.assertEqual(how_long(BILLION, FIGURES), {1: 10, **{many: 9 * 10 ** (many - 1) for many in range(2, 10)}})
        nine = ("figures", 10, "-", 9, 0, "", "")
        self.assertEqual(how_long(BILLION, nine), {9: 10 ** 9})
        self.assertEqual(how_often(BILLION, nine), {figure: 9 * 10 ** 8 for figure in "0123456789"})
        self.assertEqual(mean_length(BILLION, nine), (9, 1))
        words = ("word", "abcdefghijkl", 12, 12)
        self.assertEqual(how_long(words, ("quoted", "a", "!")), {14 + many: self.chosen(many) * 11 ** (12 - many) for many in range(13)})
        self.assertEqual(how_often(words, ("plain",)), {sign: 12 ** 12 for sign in "abcdefghijkl"})
        rows = ("many", ("word", "ab", 0, 12), 12, 12)
        total = how_many_values(rows)
        self.assertEqual(total, (2 ** 13 - 1) ** 12)
        self.assertEqual(how_long(rows, ("skip",)), {0: total})
        self.assertEqual(sum(how_long(rows, ("many", "", "", ",", "", ("plain",))).values()), total)
        self.assertEqual(how_often(rows, ("many", "", "", ",", "", ("plain",)))[","], 11 * total)
        self.assertEqual(mean_length(rows, ("many", "", "(", "", ")", ("skip",))), (2, 1))
        self.assertEqual(mean_length(("many", ("word", "abcdefghijkl", 0, 12), 0, 0), ("many", "abc", "", "", "", HUGE)), (3, 1))

    def chosen(self, many):
        told = 1
        for at in range(many):
            told = told * (12 - at) // (at + 1)
        return told

    def test_what_is_handed_out_may_be_changed(self):
        how_long(DIGITS, FIGURES).clear()
        how_often(DIGITS, FIGURES)["0"] = 7
        self.assertEqual(how_long(DIGITS, FIGURES), {1: 10, 2: 90})
        self.assertEqual(how_often(DIGITS, FIGURES)["0"], 10)


class Shortest(unittest.TestCase):
    def test_the_first_of_the_shortest(self):
        hexadecimal = ("figures", 16, "-", 1, 0, "", "")
        for formats, number in (((FIGURES,), 0), ((FIGURES, FIGURES), 0), ((TWO, FIGURES, FIGURES), 1), ((FIGURES, hexadecimal), 1),
                                ((hexadecimal, FIGURES), 0), ((TWO, PADDED), 0), ((TWO, PADDED, ("skip",), ("cut", 0, FIGURES)), 2)):
            self.assertEqual(shortest_form(DIGITS, formats), number)
        # Few short texts don't count against all others.
        names = (("names", ("", "", "abcdefgh")), ("names", ("ab", "ab", "ab")), ("names", ("abc", "a", "a")))
        self.assertEqual(shortest_form(("one", 3), names), 2)

    def test_drawn_ones(self):
        rng = random.Random(212)
        found = {}
        while len(found) < 4 or min(found.values()) < 20:
            sort = some_sort(rng, rng.choice((1, 2)), False)
            if how_many_values(sort) > 200:
                continue
            formats = tuple(some_format(rng, sort, 6) for _ in range(rng.randint(1, 4)))
            totals = [sum(len(write(sort, format, value)) for value in all_values(sort)) for format in formats]
            try:
                number = shortest_form(sort, formats)
            except TooLarge:
                continue
            self.assertEqual(number, totals.index(min(totals)), (sort, formats))
            found[number] = found.get(number, 0) + 1


class Errors(unittest.TestCase):
    def test_endless_many_values(self):
        for sort, format in ENDLESS:
            for call in (how_long, how_often, mean_length, lambda sort, format: shortest_form(sort, (format,)),
                         lambda sort, format: shortest_form(sort, (("skip",), format))):
                with self.subTest((sort, format)), self.assertRaises(BadThing) as caught:
                    call(sort, format)
                self.assertEqual(caught.exception.thing, sort)

    def test_finitely_many_of_endless_many(self):
        none = ("many", INT, 0, 0)
        self.assertEqual(how_long(none, ("many", "-", "", "", "", FIGURES)), {1: 1})
        self.assertEqual(how_often(none, ("many", "-", "", "", "", FIGURES)), {"-": 1})

    def test_too_large(self):
        for call in (how_long, how_often, mean_length, lambda sort, format: shortest_form(sort, (format,)),
                     lambda sort, format: shortest_form(sort, (FIGURES, format))):
            with self.assertRaises(TooLarge) as caught:
                call(BOUNDED, HUGE)
            self.assertEqual(caught.exception.most, 500)

    def test_the_first_one_is_asked_first(self):
        asked = []

        def told(sort, format):
            asked.append(format)
            raise TooLarge(500)
        with mock.patch("readagain.totals.machine_of", told), self.assertRaises(TooLarge):
            shortest_form(DIGITS, (TWO, FIGURES))
        self.assertEqual(asked, [TWO])


if __name__ == "__main__":
    unittest.main()
