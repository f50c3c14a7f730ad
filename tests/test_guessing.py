"""[30] Formats guessed from values and their texts."""

import random
import unittest
from itertools import product

from readagain.errors import BadThing
from readagain.formats import is_format
from readagain.guessing import formats_for
from readagain.signs import SIGNS
from readagain.writing import write
from tests.making import DIGITS, FIGURES, INT, PRICE, WORD, some_format, some_int_format, some_value, some_word_format

NATURAL = ("int", 0, None)
PLAIN = ("plain",)


def parts_of(texts, least, most):
    """All texts of least to most signs that stand somewhere in some texts."""
    return {text[at:at + many] for text in texts for at in range(len(text) + 1) for many in range(least, most + 1) if at + many <= len(text)}


def listed(sort, rows):
    """All formats that the document lists, tried one by one."""
    texts = [text for _, text in rows]
    signs = sorted(set("".join(texts)))
    if sort[0] == "int":
        groups = [(0, "")] + list(product((2, 3, 4), signs))
        aheads = sorted(parts_of(texts[:1], 0, 4))
        tried = [("figures", base, sign, least, group, mark, ahead) for base in (2, 8, 10, 16) for sign in "-+ " for least in range(1, 7)
                 for group, mark in groups for ahead in aheads]
        tried += [("powers", base, sign) for base in (2, 8, 10) for sign in "-+ "]
    elif sort[0] == "word":
        letters = sorted(set("".join(word for word, _ in rows)))
        tried = [PLAIN] + [("quoted", quote, escape) for quote in signs for escape in set(signs + ["~"])]
        tried += [("spelled", tuple(zip(letters, row))) for row in product(sorted(parts_of(texts, 1, 4)), repeat=len(letters))]
    else:
        told = dict(rows)
        tried = [("names", tuple(told[number] for number in range(sort[1])))] if len(told) == sort[1] else []
    return tuple(sorted(format for format in set(tried)
                        if is_format(sort, format) and all(write(sort, format, value) == text for value, text in rows)))


class Guessing(unittest.TestCase):
    def right(self, sort, rows):
        told = formats_for(sort, rows)
        self.assertEqual(told, listed(sort, rows), (sort, rows))
        for format in told:
            self.assertTrue(is_format(sort, format))
            self.assertTrue(all(write(sort, format, value) == text for value, text in rows))
        return told

    def test_examples(self):
        self.assertEqual(formats_for(("one", 2), ((0, "no"), (1, "yes"))), (("names", ("no", "yes")),))
        self.assertEqual(formats_for(NATURAL, ((255, "ff"),)), (("figures", 16, "-", 1, 0, "", ""), ("figures", 16, "-", 2, 0, "", "")))

    def test_integers_written_by_a_format(self):
        rng = random.Random(241)
        found = 0
        for _ in range(120):
            sort = rng.choice((INT, NATURAL, ("int", -999, 99999), DIGITS))
            format = some_int_format(rng, sort)
            low, high = -300 if sort[1] is None else max(-300, sort[1]), 5000 if sort[2] is None else min(5000, sort[2])
            values = [rng.choice((rng.randint(low, high), rng.randint(max(low, -9), 20))) for _ in range(rng.choice((1, 2, 3)))]
            rows = tuple((value, write(sort, format, value)) for value in values)
            if max(len(text) for _, text in rows) > 12:
                continue
            if rng.random() < 0.2:
                rows = rows[:-1] + ((rows[-1][0], rows[-1][1][1:] + rng.choice("0x-1")),)
            with self.subTest((sort, format, rows)):
                told = self.right(sort, rows)
                found += format in told
        self.assertGreater(found, 40)

    def test_some_known_integers(self):
        comma = ("figures", 10, "-", 1, 3, ",", "")
        told = self.right(NATURAL, ((1234, "1,234"), (5, "5")))
        self.assertEqual(told, (comma,))
        told = self.right(NATURAL, ((1234, "0x1,234"), (5, "0x5")))
        self.assertEqual(told, (comma[:-1] + ("0x",),))
        # The mark stands in a text, though only ahead of all figures; so do marks that are no figures of the base.
        self.assertIn(("figures", 10, "-", 1, 4, "x", "0x"), self.right(NATURAL, ((7, "0x7"),)))
        self.assertIn(("figures", 2, "-", 1, 2, "7", ""), self.right(NATURAL, ((5, "1701"),)))
        self.assertIn(("figures", 16, "-", 1, 0, "", "abcd"), self.right(NATURAL, ((10, "abcda"),)))
        self.assertEqual(self.right(NATURAL, ((10, "abcdea"),)), ())
        self.assertIn(("figures", 10, "+", 1, 0, "", ""), self.right(INT, ((-7, "-7"), (7, "+7"))))
        self.assertEqual({format[2] for format in self.right(INT, ((-7, "-7"),))}, {"-", "+", " "})
        self.assertEqual({format[2] for format in self.right(INT, ((7, " 7"),)) if format[6] == ""}, {" "})
        # A nought ahead: of the figures, or as the text ahead of them.
        self.assertEqual([format[3:] for format in self.right(NATURAL, ((7, "07"),)) if format[1] == 10 and format[2] == "-"],
                         [(1, 0, "", "0"), (2, 0, "", "")])
        self.assertEqual({format[3] for format in self.right(NATURAL, ((7, "000000000007"),))}, set())
        self.assertEqual({format[3] for format in self.right(NATURAL, ((123456, "123456"),)) if format[1] == 10}, {1, 2, 3, 4, 5, 6})
        self.assertEqual({format[3] for format in self.right(NATURAL, ((7, "0000007"),)) if format[1] == 10 and format[2] == "-"}, {3, 4, 5, 6})
        self.assertEqual({format[3] for format in self.right(NATURAL, ((1234567, "1234567"),)) if format[1] == 10}, {1, 2, 3, 4, 5, 6})
        self.assertEqual(self.right(INT, ((7, ""),)), ())
        self.assertEqual(self.right(INT, ((7, "8"),)), ())
        self.assertEqual(self.right(INT, ((7, "7"), (7, "07"))), ())
        self.assertEqual(self.right(INT, ((10 ** 30, "1"),)), ())

    def test_powers_only_with_both_bounds(self):
        rows = ((700, "7e2"),)
        self.assertEqual(self.right(("int", 0, 999), rows), (("powers", 10, "-"),))
        self.assertEqual(self.right(("int", -9, 999), rows + ((-3, "-3"), (0, "0"))), (("powers", 10, "-"),))
        self.assertEqual(self.right(NATURAL, rows), ())
        self.assertEqual(self.right(("int", None, 999), rows), ())
        self.assertEqual(self.right(DIGITS, ((8, "1e3"),)), (("powers", 2, "-"),))
        self.assertEqual(self.right(DIGITS, ((8, "+1e1"),)), (("powers", 8, "+"),))
        self.assertEqual(self.right(("int", 0, 27), ((27, "1e3"),)), ())

    def test_words_written_by_a_format(self):
        rng = random.Random(242)
        found = 0
        for _ in range(300):
            sort = ("word", "".join(sorted(rng.sample("ab0'!-e", rng.randint(1, 3)))), 0, rng.choice((None, 5)))
            format = some_word_format(rng)
            rows = tuple((word, write(sort, format, word)) for word in [some_value(rng, sort) for _ in range(rng.choice((1, 2, 3)))])
            if max(len(text) for _, text in rows) > (12 if len(sort[1]) < 3 else 8):
                continue
            if rng.random() < 0.2:
                rows = rows[:-1] + ((rows[-1][0], rows[-1][1][1:] + rng.choice("'a!x")),)
            with self.subTest((sort, format, rows)):
                told = self.right(sort, rows)
                found += format in told or format[0] == "spelled"
        self.assertGreater(found, 100)

    def test_some_known_words(self):
        self.assertEqual(self.right(WORD, (("", ""),)), (PLAIN, ("spelled", ())))
        self.assertEqual(self.right(WORD, (("ab", "ab"),)), (PLAIN, ("spelled", (("a", "a"), ("b", "b")))))
        self.assertEqual(self.right(WORD, (("", "''"),)), (("quoted", "'", "~"),))
        self.assertEqual(self.right(WORD, (("", "~~"),)), ())
        self.assertEqual([format for format in self.right(WORD, (("a", "'a'"),)) if format[0] == "quoted"],
                         [("quoted", "'", "~")])
        self.assertEqual(self.right(WORD, (("a", "'aa'"),)), (("quoted", "'", "a"), ("spelled", (("a", "'aa'"),))))
        self.assertEqual(self.right(("word", "ab~", 0, None), (("~", "'~~'"),))[0], ("quoted", "'", "~"))
        self.assertEqual(self.right(WORD, (("ab", "xxx"),)), (("spelled", (("a", "x"), ("b", "xx"))), ("spelled", (("a", "xx"), ("b", "x")))))
        self.assertEqual(self.right(WORD, (("ab", "xxx"), ("ba", "xyx"))), ())
        self.assertEqual(self.right(WORD, (("aa", "xyxy"), ("b", "abcde"))), ())
        self.assertEqual(self.right(("word", "abc", 0, None), (("abc", "abcdefghijkl"),)),
                         (("spelled", (("a", "abcd"), ("b", "efgh"), ("c", "ijkl"))),))
        self.assertEqual(self.right(WORD, (("a", ""),)), ())

    def test_many_spellings(self):
        word = ("word", "abcdefghijkl", 0, None)
        told = formats_for(word, (("abcdef", "x" * 12),))
        self.assertEqual(len(told), 336)
        self.assertEqual(list(told), sorted(set(told)))
        self.assertTrue(all(sum(len(text) for _, text in format[1]) == 12 for format in told))
        self.assertEqual(formats_for(word, (("abcdefghijkl", "abcdefghijkl"),)), (PLAIN, ("spelled", tuple((sign, sign) for sign in "abcdefghijkl"))))
        self.assertEqual(formats_for(word, (("a" * 1000, "a"),)), ())

    def test_names(self):
        sort = ("one", 3)
        self.assertEqual(self.right(sort, ((2, "c"), (0, ""), (1, "c"))), (("names", ("", "c", "c")),))
        self.assertEqual(self.right(sort, ((2, "c"), (0, ""), (1, "c"), (2, "c"))), (("names", ("", "c", "c")),))
        self.assertEqual(self.right(sort, ((2, "c"), (0, ""))), ())
        self.assertEqual(self.right(sort, ((2, "c"), (0, ""), (1, "c"), (2, "d"))), ())
        self.assertEqual(self.right(sort, ((2, "abcdefgh"), (0, ""), (1, "c"))), (("names", ("", "c", "abcdefgh")),))
        self.assertEqual(self.right(sort, ((2, "abcdefghi"), (0, ""), (1, "c"))), ())

    def test_equal_answers(self):
        rows = ((255, "ff"), (16, "10"))
        told = formats_for(NATURAL, rows)
        formats_for(INT, ((1, "1"),))
        self.assertEqual(formats_for(NATURAL, rows), told)
        self.assertEqual(rows, ((255, "ff"), (16, "10")))


class Errors(unittest.TestCase):
    def test_rows_that_are_none(self):
        good = (7, "7")
        for rows in ((), [good], (list(good),), good, None, 7, "77", {7: "7"}, (good,) * 21, ((7,),), ((7, "7", 0),), (("7", "7"),),
                     ((True, "1"),), ((None, "7"),), ((7.0, "7"),), ((-1, "-1"),), ((100, "100"),), ((7, 7),), ((7, None),), ((7, b"7"),),
                     ((7, ["7"]),), ((7, "1234567890123"),), ((7, "7%"),), ((7, "\n"),), ((7, "\u25a1"),), ((7, "\u00e4"),), (good, None), (None, good)):
            with self.subTest(repr(rows)), self.assertRaises(BadThing) as caught:
                formats_for(DIGITS, rows)
            self.assertIs(caught.exception.thing, rows)

    def test_rows_of_words_and_ones(self):
        for sort, rows in ((WORD, (("abc", "abc"),)), (WORD, (("c", "c"),)), (WORD, ((0, "a"),)), (WORD, ((("a",), "a"),)), (("one", 2), ((2, "a"),)),
                           (("one", 2), ((True, "a"), (0, "b"))), (("one", 2), (("a", 0),))):
            with self.subTest((sort, rows)), self.assertRaises(BadThing) as caught:
                formats_for(sort, rows)
            self.assertIs(caught.exception.thing, rows)

    def test_as_much_as_may_be(self):
        self.assertEqual(len(formats_for(DIGITS, ((7, "7"),) * 20)), len(formats_for(DIGITS, ((7, "7"),))))
        self.assertEqual(formats_for(NATURAL, ((123456789012, "123456789012"),))[0], ("figures", 10, "-", 1, 0, "", ""))
        self.assertTrue(all(len(formats_for(WORD, (("a", sign),))) >= 1 for sign in SIGNS))

    def test_other_sorts(self):
        rng = random.Random(243)
        for sort in (PRICE, ("maybe", INT), ("many", INT, 0, None), ("case", (INT, WORD)), ("row", ())):
            value = some_value(rng, sort)
            rows = ((value, write(sort, some_format(rng, sort, 5), value)[:12]),)
            for thing in (rows, ((value, ""),), (), None):
                with self.subTest(sort), self.assertRaises(BadThing) as caught:
                    formats_for(sort, thing)
                self.assertIs(caught.exception.thing, thing)

    def test_texts_need_no_machine(self):
        self.assertIn(("figures", 10, "-", 6, 3, ",", ""), formats_for(INT, ((7, "000,007"),)))
        self.assertEqual(FIGURES, formats_for(INT, ((7, "7"), (8, "8"), (99, "99")))[0])


if __name__ == "__main__":
    unittest.main()
