"""[25] Wrong and lost signs."""

import random
import unittest

from readagain.errors import BadText, TooLarge
from readagain.machines import machine_of
from readagain.mending import corrected, fitting, is_sure, lost_at
from readagain.scores import score
from readagain.signs import SIGNS
from readagain.sorts import how_many_values
from readagain.writing import write
from tests.making import DIGITS, FIGURES, INT, LOOSE, PRICE, TWO, WORD, all_values, some_pair, some_text
from tests.test_verdicts import all_rows

HUGE = ("checked", 16, 5, FIGURES)
CHECKED = ("checked", 11, 3, TWO)
ONE = ("one", 2)
LOST = chr(9633)
WORDS = ("word", "ab", 0, None)


def unlike_signs(text, other):
    return sum(one != two for one, two in zip(text, other))


def corrected_by_all(sort, format, text, values):
    """What is told of finitely many values, or of all that have texts of this length."""
    rows = sorted([(score(sort, format, value), value) for value in values if len(write(sort, format, value)) == len(text)])
    if not rows:
        return (None, [])
    n = min(unlike_signs(text, write(sort, format, value)) for _, value in rows)
    return (n, [value for _, value in rows if unlike_signs(text, write(sort, format, value)) == n])


def fitting_by_all(sort, format, pattern, values):
    found = []
    for value in values:
        text = write(sort, format, value)
        if len(text) == len(pattern) and all(sign in (LOST, other) for sign, other in zip(pattern, text)):
            found.append((score(sort, format, value), value))
    return [value for _, value in sorted(found)]


class Corrected(unittest.TestCase):
    def right(self, sort, format, text, values):
        told = corrected_by_all(sort, format, text, values)
        if len(told[1]) > 1000:
            for call in (lambda: corrected(sort, format, text), lambda: is_sure(sort, format, text, 60)):
                with self.assertRaises(TooLarge) as caught:
                    call()
                self.assertEqual(caught.exception.most, 1000)
            return
        self.assertEqual(corrected(sort, format, text), told)
        n, found = told
        for most in (0, 1, 2, 60):
            self.assertIs(is_sure(sort, format, text, most), n is not None and n <= most and len(found) == 1)

    def test_examples(self):
        self.assertEqual(
            (corrected(ONE, ("names", ("aaa", "bbb")), "aba"), fitting(DIGITS, TWO, "4" + lost_at("x", (0,)))[:2],
             ord(lost_at("abc", (1,))[1])), ((1, [0]), [40, 41], 9633))

    def test_finitely_many_values(self):
        rng = random.Random(151)
        tried = 0
        while tried < 150:
            sort, format = some_pair(rng, False, rng.choice((1, 2, 3)))
            if how_many_values(sort) <= 300:
                tried += 1
                values = all_values(sort)
                text = list(write(sort, format, rng.choice(values)) if rng.random() < 0.7 else some_text(rng, 0, 6))
                for _ in range(rng.choice((0, 1, 2))):
                    if text:
                        text[rng.randrange(len(text))] = rng.choice("ab019-, %"[:8])
                with self.subTest((sort, format, text)):
                    try:
                        self.right(sort, format, "".join(text)[:60], values)
                    except TooLarge:
                        pass

    def test_endless_many_values(self):
        words = ["".join(row) for row in all_rows("ab", 8)]
        rows = [row for row in all_rows(["", "a", "b", "ab", "ba", "aa", "bb"], 3)]
        for sort, format, text, values in (
                (WORDS, ("plain",), "abxb", words), (WORDS, ("quoted", "'", "a"), "'abx'", words), (WORDS, ("quoted", "'", "a"), "xxxx", words),
                (INT, FIGURES, "x7", range(-999, 1000)), (INT, FIGURES, "07", range(-999, 1000)), (INT, FIGURES, "", range(-999, 1000)),
                (INT, FIGURES, "xyz", range(-999, 1000)), (("many", WORD, 0, None), ("many", "-", "", ";", ".", ("plain",)), "a;x", rows),
                (("many", WORD, 0, None), ("many", "-", "", ";", ".", ("plain",)), "+", rows)):
            with self.subTest((sort, format, text)):
                self.right(sort, format, text, list(values))

    def test_by_their_scores(self):
        self.assertEqual(corrected(INT, FIGURES, "x"), (1, list(range(10))))
        self.assertEqual(corrected(INT, FIGURES, "1x"), (1, list(range(10, 20))))
        self.assertEqual(corrected(INT, FIGURES, "x1"), (1, [-1] + list(range(11, 100, 10))))
        self.assertEqual(corrected(PRICE, LOOSE, "123"), (0, [(12, 3), (1, 23)]))

    def test_several_values_of_one_text(self):
        sort, format = ("many", ("one", 2), 0, None), ("many", "", "", "", "", ("names", ("", "a")))
        self.assertEqual(corrected(sort, format, "ab"), (1, None))
        self.assertIs(is_sure(sort, format, "ab", 60), False)
        self.assertEqual(fitting(sort, format, "a" + LOST), None)
        self.assertEqual(corrected(INT, ("cut", 2, FIGURES), "12"), (0, None))
        self.assertEqual(corrected(INT, ("cut", 2, FIGURES), "x1"), (1, None))
        self.assertEqual(corrected(INT, ("cut", 2, FIGURES), "123"), (None, []))

    def test_endless_many_values_only_where_texts_are_as_near(self):
        # Endless many values have the text bb, but the text aa is nearer, and of one value alone.
        sort = ("case", (("one", 1), ("many", ("one", 1), 0, None)))
        format = ("case", (("names", ("aa",)), ("many", "bb", "b", "", "b", ("names", ("",)))))
        self.assertEqual(corrected(sort, format, "ax"), (1, [(0, 0)]))
        self.assertEqual(corrected(sort, format, "bx"), (1, None))
        self.assertEqual(corrected(sort, format, "ab"), (1, None))
        self.assertEqual(fitting(sort, format, "a" + LOST), [(0, 0)])
        self.assertIsNone(fitting(sort, format, LOST * 2))
        self.assertEqual(fitting(sort, format, LOST * 3), [])

    def test_more_than_a_thousand(self):
        for call in (lambda: corrected(INT, FIGURES, "xxxx"), lambda: is_sure(INT, FIGURES, "xxxx", 0), lambda: fitting(INT, FIGURES, LOST * 4)):
            with self.assertRaises(TooLarge) as caught:
                call()
            self.assertEqual(caught.exception.most, 1000)
        self.assertEqual(corrected(("int", 0, 999), ("figures", 10, "-", 3, 0, "", ""), "xxx")[0], 3)
        self.assertEqual(len(corrected(("int", 0, 999), ("figures", 10, "-", 3, 0, "", ""), "xxx")[1]), 1000)
        with self.assertRaises(TooLarge):
            corrected(("int", -1, 999), ("figures", 10, "+", 3, 0, "", ""), "xxxx")
        self.assertEqual(len(fitting(("int", 0, 999), ("figures", 10, "-", 3, 0, "", ""), LOST * 3)), 1000)

    def test_equal_answers(self):
        told = corrected(INT, FIGURES, "1x")
        told[1].clear()
        self.assertEqual(len(corrected(INT, FIGURES, "1x")[1]), 10)

    def test_is_sure(self):
        self.assertIs(is_sure(DIGITS, CHECKED, "128", 0), corrected(DIGITS, CHECKED, "128") == (0, [12]))
        names = ("names", ("aaa", "bbb"))
        self.assertIs(is_sure(ONE, names, "aba", 1), True)
        self.assertIs(is_sure(ONE, names, "aba", 0), False)
        self.assertIs(is_sure(ONE, names, "aaa", 0), True)
        self.assertIs(is_sure(ONE, ("names", ("aa", "bb")), "ab", 60), False)
        self.assertIs(is_sure(ONE, names, "aa", 60), False)
        for most in (True, False, None, "1", (1,), 1.0):
            with self.subTest(repr(most)):
                self.assertIs(is_sure(ONE, names, "aba", most), False)


class Fitting(unittest.TestCase):
    def test_finitely_many_values(self):
        rng = random.Random(152)
        tried = 0
        while tried < 150:
            sort, format = some_pair(rng, False, rng.choice((1, 2, 3)))
            if how_many_values(sort) <= 300:
                tried += 1
                values = all_values(sort)
                text = write(sort, format, rng.choice(values))[:60]
                pattern = "".join(LOST if rng.random() < 0.4 else sign for sign in text)
                with self.subTest((sort, format, pattern)):
                    try:
                        self.assertEqual(fitting(sort, format, pattern), fitting_by_all(sort, format, pattern, values))
                        self.assertEqual(fitting(sort, format, pattern + LOST), fitting_by_all(sort, format, pattern + LOST, values))
                    except TooLarge:
                        pass

    def test_some_patterns(self):
        self.assertEqual(fitting(DIGITS, TWO, "40"), [40])
        self.assertEqual(fitting(DIGITS, TWO, "4"), [])
        self.assertEqual(fitting(DIGITS, TWO, LOST + "x"), [])
        self.assertEqual(fitting(WORD, ("plain",), ""), [""])
        self.assertEqual(fitting(WORD, ("plain",), LOST), ["a", "b"])
        self.assertEqual(fitting(WORDS, ("quoted", "'", "!"), "'" + LOST * 3 + "'")[:2], ["aaa", "aab"])

    def test_lost_signs(self):
        self.assertEqual(lost_at("abc", (0, 2)), LOST + "b" + LOST)
        self.assertEqual(lost_at("abc", ()), "abc")
        self.assertEqual(lost_at("", ()), "")
        self.assertEqual(lost_at("ab", (1, 1, 0)), LOST * 2)


class Errors(unittest.TestCase):
    def test_wrong_texts(self):
        names = ("names", ("aaa", "bbb"))
        wrong = [("a%", 1), ("%", 0), ("ab\n", 2), ("\u00e9a", 0), ("a" * 61, 60), ("a" * 60 + "%", 60), ("a" * 59 + "%", 59),
                 ("a" * 59 + "%" + "a", 59), ("a" * 75, 60), (None, 0), (12, 0), (("a",), 0), (["a"], 0), (b"a", 0), (True, 0)]
        for text, place in wrong + [("a" + LOST, 1)]:
            for call in (lambda: corrected(ONE, names, text), lambda: is_sure(ONE, names, text, 3)):
                with self.subTest(repr(text)), self.assertRaises(BadText) as caught:
                    call()
                self.assertEqual(caught.exception.place, place)
        for text, place in wrong + [(LOST * 61, 60), (LOST + chr(9632), 1)]:
            with self.subTest(repr(text)), self.assertRaises(BadText) as caught:
                fitting(ONE, names, text)
            self.assertEqual(caught.exception.place, place)

    def test_texts_of_sixty(self):
        self.assertEqual(corrected(WORDS, ("plain",), "ab" * 29 + "xa"), (1, ["ab" * 29 + "aa", "ab" * 29 + "ba"]))
        self.assertEqual(fitting(WORDS, ("plain",), "ab" * 29 + "a" + LOST), ["ab" * 29 + "aa", "ab" * 29 + "ab"])
        self.assertEqual(corrected(ONE, ("names", ("", "a")), ""), (0, [0]))
        self.assertEqual(corrected(ONE, ("names", ("", "a")), "b"), (1, [1]))
        self.assertEqual(corrected(ONE, ("names", ("", "a")), SIGNS[:60]), (None, []))

    def test_too_large(self):
        for text in ("12", "a" * 61, None):
            for call in (lambda: corrected(INT, HUGE, text), lambda: is_sure(INT, HUGE, text, 3), lambda: fitting(INT, HUGE, text)):
                with self.assertRaises(TooLarge) as caught:
                    call()
                self.assertEqual(caught.exception.most, 500)
        self.assertEqual(lost_at("12", (0,)), LOST + "2")
        self.assertRaises(TooLarge, machine_of, INT, HUGE)


if __name__ == "__main__":
    unittest.main()
