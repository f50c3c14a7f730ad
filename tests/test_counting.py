"""[18] Counts of the values of formats that can be read back."""

import random
import unittest

from readagain.counting import how_many, lengths, number_of, value_at
from readagain.errors import BadFormat, BadThing, TooLarge
from readagain.scores import score
from readagain.sorts import how_many_values
from readagain.verdicts import verdict
from readagain.writing import write
from tests.making import DIGITS, FIGURES, INT, LOOSE, PADDED, PRICE, TIGHT, TWO, WORD, all_values, some_pair
from tests.test_verdicts import all_rows

HUGE = ("checked", 16, 5, FIGURES)
WORDS = ("word", "ab", 0, None)


class Counts(unittest.TestCase):
    def test_examples(self):
        self.assertEqual(
            (lengths(PRICE, TIGHT), how_many(PRICE, TIGHT, 3), number_of(PRICE, TIGHT, (0, 0)), value_at(PRICE, TIGHT, 123)),
            ((3, None), 1000, 90, (1, 33)))

    def right(self, sort, format, values, most):
        """Whether counts are those of values, which are all that have texts of at most so many signs (None: all)."""
        rows = sorted([(len(write(sort, format, value)), score(sort, format, value), value) for value in values])
        rows = [row for row in rows if most is None or row[0] <= most]
        if most is None:
            self.assertEqual(lengths(sort, format), (rows[0][0], rows[-1][0]))
        else:
            self.assertEqual(lengths(sort, format), (rows[0][0], None))
        for length in range(most + 1 if most is not None else rows[-1][0] + 3):
            self.assertEqual(how_many(sort, format, length), len([row for row in rows if row[0] == length]))
        step = max(1, len(rows) // 60)
        for number in range(0, len(rows), step):
            self.assertEqual(number_of(sort, format, rows[number][2]), number)
            if number <= 1000:
                self.assertEqual(value_at(sort, format, number), rows[number][2])
        if most is None:
            for number in range(len(rows), len(rows) + 3):
                with self.assertRaises(BadThing) as caught:
                    value_at(sort, format, number)
                self.assertEqual(caught.exception.thing, number)

    def test_finitely_many_values(self):
        rng = random.Random(91)
        tried = 0
        while tried < 120:
            sort, format = some_pair(rng, False, rng.choice((1, 2, 3)))
            if how_many_values(sort) > 400:
                continue
            with self.subTest((sort, format)):
                try:
                    if verdict(sort, format)[0] == "readable":
                        tried += 1
                        self.right(sort, format, all_values(sort), None)
                except TooLarge:
                    pass

    def test_single_texts(self):
        for sort, format in ((("row", ()), ("row", ())), (("one", 1), ("skip",)), (("one", 1), ("names", ("abc",))),
                             (("int", 7, 7), FIGURES), (("many", INT, 0, 0), ("many", "xy", "", "", "", HUGE))):
            self.right(sort, format, all_values(sort) if sort[0] != "many" else [()], None)

    def test_endless_many_values(self):
        words = ["".join(row) for row in all_rows("ab", 9)]
        few = ["".join(row) for row in all_rows("ab", 4)]
        price = [(units, cents) for units in range(1000) for cents in range(100)]
        numbers = list(range(-99999, 100000))
        signed = ("figures", 10, "+", 3, 3, ",", "")
        for sort, format, values, most in (
                (WORDS, ("plain",), words, 9), (WORDS, ("quoted", "a", "b"), words, 9), (PRICE, TIGHT, price, 5),
                (WORDS, ("spelled", (("a", "xyz"), ("b", "x"))), words, 9), (INT, FIGURES, numbers, 5),
                (("int", -5, None), signed, [number for number in numbers if number >= -5], 7),
                (("int", None, 12), PADDED, [number for number in numbers if number <= 12], 5),
                (("many", ("word", "ab", 0, None), 0, None), ("many", "-", "", ";", ".", ("plain",)), all_rows(few, 3), 3)):
            with self.subTest((sort, format)):
                self.right(sort, format, values, most)

    def test_great_lengths(self):
        self.assertEqual(how_many(WORDS, ("plain",), 200), 2 ** 200)
        self.assertEqual(how_many(("int", 0, None), FIGURES, 200), 9 * 10 ** 199)
        self.assertEqual(how_many(("int", 0, None), FIGURES, 0), 0)
        self.assertEqual(number_of(WORDS, ("plain",), "b" * 300), 2 ** 301 - 2)
        self.assertEqual(number_of(INT, FIGURES, -10 ** 40), number_by_hand(40))

    def test_texts_far_apart(self):
        sort = ("many", ("row", ()), 0, None)
        format = ("many", "a", "b", "", "", ("row", ("12345678", "12345678", "12345678")))
        self.assertEqual(value_at(sort, format, 1000), ((),) * 1000)
        self.assertEqual(number_of(sort, format, ((),) * 1000), 1000)
        self.assertEqual([how_many(sort, format, length) for length in (0, 1, 2, 24, 25, 26, 49, 200, 193)], [0, 1, 0, 0, 1, 0, 1, 0, 1])
        self.assertEqual(lengths(sort, format), (1, None))

    def test_equal_answers(self):
        self.assertEqual(value_at(PRICE, TIGHT, 7), value_at(PRICE, TIGHT, 7))


def number_by_hand(figures):
    """How many integers in figures stand ahead of -10 ** figures."""
    # Shorter texts: those of up to figures + 1 signs; then the least of all of figures + 2 signs, for minus comes ahead of plus.
    positive = 10 ** (figures + 1)
    negative = 10 ** figures - 1
    return positive + negative


class Errors(unittest.TestCase):
    def test_formats_that_cannot_be_read_back(self):
        for call in (lambda: lengths(PRICE, LOOSE), lambda: how_many(PRICE, LOOSE, 3), lambda: how_many(PRICE, LOOSE, -1),
                     lambda: number_of(PRICE, LOOSE, (0, 0)), lambda: value_at(PRICE, LOOSE, 0), lambda: value_at(PRICE, LOOSE, None)):
            with self.assertRaises(BadFormat) as caught:
                call()
            self.assertEqual(caught.exception.thing, LOOSE)

    def test_too_large(self):
        for call in (lambda: lengths(INT, HUGE), lambda: how_many(INT, HUGE, -1), lambda: number_of(INT, HUGE, 0),
                     lambda: value_at(INT, HUGE, -1)):
            with self.assertRaises(TooLarge) as caught:
                call()
            self.assertEqual(caught.exception.most, 500)

    def test_wrong_lengths(self):
        for length in (-1, 201, True, False, None, "3", 3.0, (3,), []):
            with self.subTest(repr(length)), self.assertRaises(BadThing) as caught:
                how_many(PRICE, TIGHT, length)
            self.assertEqual(caught.exception.thing, length)

    def test_wrong_numbers(self):
        for number in (-1, 1001, True, False, None, "3", 3.0, (3,), []):
            with self.subTest(repr(number)), self.assertRaises(BadThing) as caught:
                value_at(PRICE, TIGHT, number)
            self.assertEqual(caught.exception.thing, number)
        self.assertEqual(value_at(("int", 0, 999), FIGURES, 999), 999)
        for number in (1000, 1001):
            with self.assertRaises(BadThing):
                value_at(("int", 0, 999), FIGURES, number)
        self.assertEqual(value_at(("int", 0, 1000), FIGURES, 1000), 1000)
        # By their scores: the mark of three noughts stands behind that of none.
        self.assertEqual(value_at(("int", 0, 1000), ("figures", 10, "-", 4, 0, "", ""), 1000), 9)
        self.assertEqual((number_of(DIGITS, TWO, 99), number_of(DIGITS, TWO, 0)), (89, 90))
        self.assertEqual(number_of(WORD, ("plain",), "bb"), 6)


if __name__ == "__main__":
    unittest.main()
