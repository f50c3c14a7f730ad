"""[11] Reading; [12] piece by piece."""

import random
import unittest

from readagain.errors import BadText, ManyValues, TooLarge
from readagain.reading import Scanner, read, values_of
from readagain.scores import score
from readagain.sorts import how_many_values
from readagain.writing import write
from tests.making import (
    DIGITS, FIGURES, GROUPED, INT, LOOSE, PADDED, PRICE, TIGHT, TWO, WORD, all_values, some_pair, some_values)
from tests.test_machines import ENDLESS, FINITE

ONE = ("one", 2)
NAMES = ("names", ("no", "n"))
SKIP = ("skip",)


def texts_of(sort, format, values):
    """The dict of texts to the lists of their values, by their scores."""
    texts = {}
    for value in sorted(values, key=lambda value: score(sort, format, value)):
        texts.setdefault(write(sort, format, value), []).append(value)
    return texts


def wrong_place(texts, text):
    """The place that BadText tells of a text that is none of some texts."""
    for many in range(1, len(text) + 1):
        if not any(told.startswith(text[:many]) for told in texts):
            return many - 1
    return len(text)


def changed_texts(rng, texts, many):
    """Texts, and such with a sign more, less, or another one."""
    told = []
    for text in rng.sample(sorted(texts), min(len(texts), many)):
        at = rng.randint(0, len(text))
        sign = rng.choice("01a,-+ %\n\u00e9")
        told += [text, text[:at] + sign + text[at:], text[:at] + text[at + 1:], text[:at] + sign + text[at + 1:], text[:at]]
    return told + ["", "x", "%"]


class Reading(unittest.TestCase):
    def bad(self, sort, format, text, place):
        with self.subTest((format, text)):
            with self.assertRaises(BadText) as caught:
                read(sort, format, text)
            self.assertEqual(caught.exception.place, place)
            self.assertEqual(values_of(sort, format, text), [])

    def test_examples(self):
        self.assertEqual((read(INT, GROUPED, "-00,012"), values_of(PRICE, LOOSE, "123")), (-12, [(12, 3), (1, 23)]))

    def reads_all(self, rng, sort, format):
        texts = texts_of(sort, format, all_values(sort))
        for text in changed_texts(rng, texts, 12):
            values = texts.get(text, [])
            with self.subTest((sort, format, text)):
                told = values_of(sort, format, text)
                self.assertIsInstance(told, list)
                self.assertEqual(told, values)
                if len(values) == 1:
                    self.assertEqual(read(sort, format, text), values[0])
                elif values:
                    with self.assertRaises(ManyValues) as caught:
                        read(sort, format, text)
                    self.assertEqual(caught.exception.text, text)
                else:
                    self.bad(sort, format, text, wrong_place(texts, text))

    def test_finitely_many_values(self):
        rng = random.Random(31)
        for sort, format in FINITE:
            self.reads_all(rng, sort, format)

    def test_some_of_all_kinds(self):
        rng = random.Random(32)
        tried = 0
        while tried < 120:
            sort, format = some_pair(rng, False, rng.choice((2, 3, 4)))
            if how_many_values(sort) <= 250:
                tried += 1
                try:
                    self.reads_all(rng, sort, format)
                except TooLarge:
                    pass

    def test_endless_many_values(self):
        rng = random.Random(33)
        for sort, format in ENDLESS + [some_pair(rng, True, 3) for _ in range(60)]:
            texts = texts_of(sort, format, some_values(rng, sort, 40))
            for text, values in list(texts.items())[:12]:
                with self.subTest((sort, format, text)):
                    try:
                        told = values_of(sort, format, text)
                    except TooLarge:
                        continue
                    if told is not None:
                        self.assertEqual([value for value in told if value in values], values)
                        self.assertEqual(told, sorted(told, key=lambda value: score(sort, format, value)))
                        self.assertEqual({write(sort, format, value) for value in told}, {text})
                        self.assertEqual(len(set(told)), len(told))
                    if told is not None and len(told) == 1:
                        self.assertEqual(read(sort, format, text), values[0])
                    else:
                        with self.assertRaises(ManyValues):
                            read(sort, format, text)

    def test_the_first_wrong_sign(self):
        text = "-00,012"
        for at in range(len(text)):
            self.bad(INT, GROUPED, text[:at] + "x" + text[at + 1:], at)
            self.bad(INT, GROUPED, text[:at] + "%" + text[at + 1:], at)
            self.bad(INT, GROUPED, text[:at], at)
        self.bad(INT, GROUPED, text + "x", 7)
        self.bad(INT, GROUPED, text + "1", 7)
        self.bad(INT, GROUPED, "00,012", 0)
        self.bad(INT, GROUPED, "-00,000", 6)
        self.bad(INT, GROUPED, "+0,012", 2)
        self.bad(PRICE, TIGHT, "1", 1)
        self.bad(PRICE, TIGHT, "0123", 3)
        self.bad(("word", "'ab", 0, None), ("quoted", "'", "a"), "'ab'", 2)
        self.bad(("word", "'ab", 0, None), ("quoted", "'", "a"), "'bb", 3)
        self.bad(("row", ()), ("row", ()), "a", 0)
        self.bad(("row", ()), ("row", ("a",)), "", 0)

    def test_no_string(self):
        for thing in (None, 0, 12, True, b"12", ["1", "2"], ("1",), 1.0, {}):
            self.bad(INT, FIGURES, thing, 0)
            self.bad(WORD, ("plain",), thing, 0)

    def test_several_values(self):
        for sort, format, text, values in (
                (ONE, ("names", ("a", "a")), "a", [0, 1]), (ONE, SKIP, "", [0, 1]), (WORD, ("cut", 1, ("plain",)), "a", ["aa", "ab", "a"]),
                (("maybe", WORD), ("maybe", "a", ("plain",)), "a", [None, ("some", "a")]),
                (DIGITS, ("cut", 1, FIGURES), "4", [40, 41, 42, 43, 44, 45, 46, 47, 48, 49, 4]),
                (("one", 12), ("names", ("",) * 12), "", [0, 1, 10, 11, 2, 3, 4, 5, 6, 7, 8, 9])):
            with self.subTest((format, text)):
                self.assertEqual(values_of(sort, format, text), values)
                with self.assertRaises(ManyValues) as caught:
                    read(sort, format, text)
                self.assertEqual(caught.exception.text, text)

    def test_endless_many_with_one_text(self):
        word = ("word", "a", 0, None)
        for sort, format, text in (
                (INT, SKIP, ""), (word, SKIP, ""), (INT, ("cut", 2, FIGURES), "12"), (INT, ("pad", 3, "*", "<", SKIP), "***"),
                (("many", ("row", ()), 0, None), ("many", "", "", "", "", ("row", ())), ""),
                (("row", (word, DIGITS)), ("row", ((0, SKIP), (1, FIGURES))), "12"),
                (("row", (DIGITS, word)), ("row", ((0, FIGURES), (1, SKIP), "x")), "12x")):
            with self.subTest((format, text)):
                self.assertIsNone(values_of(sort, format, text))
                with self.assertRaises(ManyValues):
                    read(sort, format, text)
        self.assertEqual(values_of(INT, ("cut", 2, FIGURES), "1"), [1])
        self.assertEqual(values_of(("row", (word, DIGITS)), ("row", ((0, SKIP), (1, FIGURES))), ""), [])
        self.assertEqual(values_of(("case", (word, ONE)), ("case", (SKIP, ("names", ("a", "a")))), "a"), [(1, 0), (1, 1)])
        self.assertIsNone(values_of(("case", (word, ONE)), ("case", (SKIP, ("names", ("a", "")))), ""))

    def test_a_thousand_values_and_more(self):
        self.assertEqual(len(values_of(("int", 1, 1000), SKIP, "")), 1000)
        with self.assertRaises(TooLarge) as caught:
            values_of(("int", 1, 1001), SKIP, "")
        self.assertEqual(caught.exception.most, 1000)
        with self.assertRaises(ManyValues):
            read(("int", 1, 1001), SKIP, "")
        self.assertEqual(values_of(("int", 1, 5000), ("cut", 4, ("figures", 10, "-", 3, 0, "", "x")), "x123"),
                         [1230, 1231, 1232, 1233, 1234, 1235, 1236, 1237, 1238, 1239, 123])
        with self.assertRaises(TooLarge):
            values_of(("row", (ONE,) * 10), ("row", tuple((at, SKIP) for at in range(10))), "")
        self.assertEqual(values_of(("int", 1, 1001), SKIP, "x"), [])
        wide = ("many", ("word", "ab", 0, 12), 0, 12)
        with self.assertRaises(TooLarge):
            values_of(wide, ("cut", 1, ("many", "", "", "", "", ("plain",))), "a")

    def test_long_texts(self):
        figures = "9" * 6000
        value = read(("int", 0, None), FIGURES, figures)
        self.assertEqual(value, 10 ** 6000 - 1)
        self.bad(("int", 0, None), FIGURES, figures + "x", 6000)
        rows = read(("many", WORD, 0, None), ("many", "none", "[", "; ", "]", ("quoted", "'", "a")),
                    "[" + "; ".join(["'aab'"] * 2000) + "]")
        self.assertEqual(rows, ("ab",) * 2000)

    def test_handed_out_lists_may_be_changed(self):
        told = values_of(PRICE, LOOSE, "123")
        told.append(None)
        self.assertEqual(values_of(PRICE, LOOSE, "123"), [(12, 3), (1, 23)])
        scanner = Scanner(PRICE, LOOSE)
        scanner.feed("123")
        scanner.readings().clear()
        self.assertEqual(scanner.readings(), [(12, 3), (1, 23)])


class Scanning(unittest.TestCase):
    def test_examples(self):
        scanner = Scanner(ONE, NAMES)
        self.assertEqual((scanner.feed("n"), scanner.size, scanner.can_end(), scanner.next_signs(), scanner.readings()),
                         (None, 1, True, "o", [1]))

    def right(self, scanner, texts, fed):
        """Whether a scanner tells what all texts tell of what was fed."""
        self.assertEqual(scanner.size, len(fed))
        self.assertIs(scanner.can_end(), fed in texts)
        signs = {text[len(fed)] for text in texts if text.startswith(fed) and len(text) > len(fed)}
        self.assertEqual(scanner.next_signs(), "".join(sorted(signs)))
        self.assertEqual(scanner.readings(), texts.get(fed, []))

    def feed_wrong(self, rng, scanner, texts, fed):
        piece = "".join(rng.choice("01a,-%;") for _ in range(rng.randint(1, 3)))
        if any(text.startswith(fed + piece) for text in texts):
            return
        with self.assertRaises(BadText) as caught:
            scanner.feed(piece)
        self.assertEqual(caught.exception.place, wrong_place(texts, fed + piece))
        self.right(scanner, texts, fed)

    def scans(self, rng, sort, format):
        texts = texts_of(sort, format, all_values(sort))
        for text in rng.sample(sorted(texts), min(len(texts), 4)):
            for most in (1, 3, len(text)):
                scanner = Scanner(sort, format)
                fed = ""
                self.right(scanner, texts, fed)
                while fed != text:
                    piece = text[len(fed):len(fed) + rng.randint(0, most)]
                    self.assertIsNone(scanner.feed(piece))
                    fed += piece
                    self.right(scanner, texts, fed)
                    self.feed_wrong(rng, scanner, texts, fed)

    def test_finitely_many_values(self):
        rng = random.Random(34)
        for sort, format in FINITE:
            with self.subTest((sort, format)):
                self.scans(rng, sort, format)

    def test_some_of_all_kinds(self):
        rng = random.Random(35)
        tried = 0
        while tried < 60:
            sort, format = some_pair(rng, False, rng.choice((2, 3)))
            if how_many_values(sort) <= 150:
                tried += 1
                with self.subTest((sort, format)):
                    try:
                        self.scans(rng, sort, format)
                    except TooLarge:
                        pass

    def test_wrong_pieces_change_nothing(self):
        scanner = Scanner(INT, GROUPED)
        for piece, place in (("x", 0), ("+12,3x", 5), ("+12,345,", None), ("x", 8), ("", None), ("6,", 9), ("67%", 10),
                             ("678", None), ("9", 11), (",9x", 13)):
            if place is None:
                scanner.feed(piece)
            else:
                with self.assertRaises(BadText) as caught:
                    scanner.feed(piece)
                self.assertEqual(caught.exception.place, place)
        self.assertEqual((scanner.size, scanner.can_end(), scanner.next_signs(), scanner.readings()),
                         (11, True, ",", [12345678]))

    def test_an_empty_text(self):
        scanner = Scanner(("maybe", WORD), ("maybe", "", ("plain",)))
        scanner.feed("")
        self.assertEqual((scanner.size, scanner.can_end(), scanner.next_signs(), scanner.readings()),
                         (0, True, "ab", [None, ("some", "")]))

    def test_readings_as_values_of(self):
        scanner = Scanner(("word", "a", 0, None), SKIP)
        self.assertIsNone(scanner.readings())
        scanner = Scanner(("int", 1, 1001), ("pad", 2, "-", "<", SKIP))
        self.assertEqual(scanner.readings(), [])
        scanner.feed("--")
        with self.assertRaises(TooLarge) as caught:
            scanner.readings()
        self.assertEqual((caught.exception.most, scanner.can_end(), scanner.next_signs()), (1000, True, ""))

    def test_endless_figures_sign_by_sign(self):
        scanner = Scanner(INT, PADDED)
        for at, sign in enumerate("-123456789"):
            scanner.feed(sign)
            self.assertEqual(scanner.size, at + 1)
            self.assertEqual(scanner.can_end(), at > 0)
        self.assertEqual(scanner.next_signs(), "0123456789")
        self.assertEqual(scanner.readings(), [-123456789])
        self.assertEqual(Scanner(DIGITS, TWO).next_signs(), "0123456789")


if __name__ == "__main__":
    unittest.main()
