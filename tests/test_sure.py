"""[26] What is sure."""

import random
import unittest
from os.path import commonprefix

from readagain.alike import do_spell_alike
from readagain.errors import BadPair, BadText, ManyValues, TooLarge
from readagain.formats import is_format
from readagain.reading import Scanner
from readagain.scores import spelling
from readagain.sorts import how_many_values
from readagain.spans import part_at
from readagain.sure import Rewriter, rewritten, sure_marks, sure_parts, sure_text
from readagain.writing import write
from tests.making import DIGITS, FIGURES, INT, LOOSE, PADDED, PRICE, TIGHT, TWO, WORD, all_values, some_pair, some_value
from tests.test_linking import spelled_alike
from tests.test_machines import ENDLESS
from tests.test_verdicts import all_rows

HUGE = ("checked", 16, 5, FIGURES)
BITS = ("figures", 2, "-", 1, 0, "", "")
DATED, SLASHED = ("row", (DIGITS, DIGITS)), ("row", ((0, TWO), "-", (1, TWO)))
BRACKETED = ("row", ("(", (0, TWO), ")", (1, TWO)))
WORDS = ("word", "ab", 0, None)


def leaves(sort, value, path=()):
    """The paths and parts of all integers, words, ones and Nones, with how many marks each has besides its own."""
    kind = sort[0]
    if kind in ("int", "word", "one") or value is None:
        return [(path, value)]
    if kind == "maybe":
        return leaves(sort[1], value[1], path + (1,))
    if kind == "case":
        return leaves(sort[1][value[0]], value[1], path + (1,))
    parts = sort[1] if kind == "row" else [sort[1]] * len(value)
    return [leaf for at, (part, inner) in enumerate(zip(parts, value)) for leaf in leaves(part, inner, path + (at,))]


def ends_of_leaves(sort, format, value):
    """For each leaf, in their order, the number of marks up to its last one: as the marks would be if it stood last."""
    marks = spelling(sort, format, value)
    found = []
    at = 0

    def go(sort, value):
        nonlocal at
        kind = sort[0]
        if kind == "int" or kind == "word":
            at = marks.index("stop", at) + 1
            found.append(at)
        elif kind == "one" or value is None:
            at += 1
            found.append(at)
        elif kind in ("maybe", "case"):
            at += 1
            go(sort[1] if kind == "maybe" else sort[1][value[0]], value[1])
        elif kind == "row":
            for part, inner in zip(sort[1], value):
                go(part, inner)
        else:
            for inner in value:
                at += 1
                go(sort[1], inner)
            at += 1
    go(sort, value)
    assert at == len(marks)
    return found


def common_marks(rows):
    first = min(rows, key=len)
    many = 0
    while many < len(first) and all(row[many] == first[many] for row in rows):
        many += 1
    return first[:many]


class Sure(unittest.TestCase):
    def right(self, sort, format, other, text, values):
        """Whether what is told is right, if these are all values whose texts begin so, or enough of them."""
        fits = [value for value in values if write(sort, format, value).startswith(text)]
        if not fits:
            scanner = Scanner(sort, format)
            with self.assertRaises(BadText) as told:
                scanner.feed(text)
            for call in (lambda: sure_marks(sort, format, text), lambda: sure_parts(sort, format, text),
                         lambda: sure_text(sort, format, other, text)):
                with self.assertRaises(BadText) as caught:
                    call()
                self.assertEqual(caught.exception.place, told.exception.place)
            return False
        marks = common_marks([spelling(sort, format, value) for value in fits])
        self.assertEqual(sure_marks(sort, format, text), marks)
        ends = ends_of_leaves(sort, format, fits[0])
        parts = tuple(leaf for leaf, end in zip(leaves(sort, fits[0]), ends) if end <= len(marks))
        self.assertEqual(sure_parts(sort, format, text), parts)
        for path, part in parts:
            self.assertEqual(part_at(sort, fits[-1], path), part)
        self.assertEqual(sure_text(sort, format, other, text), commonprefix([write(sort, other, value) for value in fits]))
        return True

    def test_examples(self):
        self.assertEqual(
            (sure_marks(DATED, SLASHED, "12-")[-1], sure_parts(DATED, SLASHED, "12-3"), sure_text(DATED, SLASHED, BRACKETED, "12")),
            ("plus", (((0,), 12),), "(12)"))

    def test_finitely_many_values(self):
        rng = random.Random(161)
        found = {True: 0, False: 0}
        while found[True] < 150 or found[False] < 50:
            sort, format = some_pair(rng, False, rng.choice((1, 2, 3)))
            if how_many_values(sort) > 250:
                continue
            other = spelled_alike(rng, sort, format)
            if not is_format(sort, other) or not do_spell_alike(sort, format, other):
                continue
            values = all_values(sort)
            text = write(sort, format, rng.choice(values))
            text = text[:rng.randint(0, len(text))] + rng.choice(("", "", "", "a", "0"))
            with self.subTest((sort, format, other, text)):
                try:
                    found[self.right(sort, format, other, text, values)] += 1
                except TooLarge:
                    pass

    def test_endless_many_values(self):
        words = ["".join(row) for row in all_rows("ab", 7)]
        great = [lead * 10 ** power + behind for lead in range(1, 130) for power in range(2, 9) for behind in (0, 1, 10 ** power - 1)]
        numbers = list(range(-2500, 2500)) + great + [-number for number in great]
        prices = [(units, cents) for units in range(300) for cents in range(100)] + [(number, 0) for number in great]
        price = ("row", ((0, ("figures", 10, "-", 1, 3, ",", "")), ".", (1, TWO)))
        grouped = ("figures", 10, "+", 5, 3, ",", "#")
        many, lists = ("many", WORD, 0, None), [row for row in all_rows(["", "a", "b", "ab", "ba", "aa", "bb"], 4)]
        for sort, format, other, values, texts in (
                (INT, FIGURES, grouped, numbers, ("", "-", "1", "12", "0", "-0", "007", "x")),
                (INT, grouped, FIGURES, numbers, ("", "-", "+#", "+#0", "+#00,", "+#1", "+#12", "+#12,", "+#12,3")),
                (INT, FIGURES, ("skip",), numbers, ("", "5")), (INT, ("cut", 2, FIGURES), FIGURES, numbers, ("", "1", "12", "-1", "0")),
                (("int", 0, None), ("pad", 3, "0", ">", FIGURES), ("pad", 4, "_", "<", FIGURES), [number for number in numbers if number >= 0],
                 ("", "0", "00", "007", "01", "012", "1")),
                (PRICE, price, TIGHT, prices, ("", "1", "12", "12.", "12.3", "12.34", "1,", "1.")),
                (PRICE, LOOSE, price, prices, ("", "1", "12", "0", "00", "012")), (PRICE, LOOSE, TIGHT, prices, ("00", "012", "12")),
                (WORDS, ("quoted", "a", "'"), ("plain",), words, ("", "a", "ab", "a'", "a'a", "a'aa", "abba", "b")),
                (WORDS, ("spelled", (("a", "xx"), ("b", "xy"))), ("quoted", "b", "!"), words, ("", "x", "xx", "xxx", "xxxy", "y")),
                (WORDS, ("spelled", (("a", "x"), ("b", "xy"))), ("plain",), words, ("", "x", "xx", "xy", "xyx")),
                (many, ("many", "-", "[", ";", "]", ("plain",)), ("many", "", "", "", ".", ("quoted", "'", "!")), lists,
                 ("", "-", "[", "[a", "[a;", "[a;b", "[a;b]", "[;"))):
            for text in texts:
                with self.subTest((sort, format, other, text)):
                    self.right(sort, format, other, text, values)

    def test_whole_values(self):
        self.assertEqual(sure_marks(WORD, ("quoted", "'", "!"), "'ab'"), ("letter a", "letter b", "stop"))
        self.assertEqual(sure_marks(WORD, ("quoted", "'", "!"), "'a"), ("letter a",))
        self.assertEqual(sure_marks(WORD, ("quoted", "'", "!"), "'ab"), ("letter a", "letter b", "stop"))
        self.assertEqual(sure_parts(WORD, ("quoted", "'", "!"), "'ab"), (((), "ab"),))
        self.assertEqual(sure_parts(WORD, ("quoted", "'", "!"), "'a"), ())
        self.assertEqual(sure_marks(("row", ()), ("row", ()), ""), ())
        self.assertEqual(sure_parts(("row", ()), ("row", ()), ""), ())
        self.assertEqual(sure_parts(("one", 1), ("names", ("ab",)), ""), (((), 0),))
        self.assertEqual(sure_text(("one", 1), ("names", ("ab",)), ("names", ("xyz",)), ""), "xyz")

    def test_paths(self):
        sort = ("row", (("maybe", DIGITS), ("case", (WORD, ("one", 2))), ("many", ("maybe", ("one", 2)), 0, None)))
        format = ("row", ((0, ("maybe", "-", TWO)), ";", (1, ("case", (("quoted", "'", "!"), ("names", ("n", "y"))))), ";",
                          (2, ("many", "", "(", ",", ")", ("maybe", "-", ("names", ("n", "y")))))))
        self.assertEqual(sure_parts(sort, format, "-;y;(n,-,y)"), (((0,), None), ((1, 1), 1), ((2, 0, 1), 0), ((2, 1), None), ((2, 2, 1), 1)))
        self.assertEqual(sure_parts(sort, format, "07;'a';(y"), (((0, 1), 7), ((1, 1), "a"), ((2, 0, 1), 1)))
        self.assertEqual(sure_parts(sort, format, "07;'a';"), (((0, 1), 7), ((1, 1), "a")))
        self.assertEqual(sure_parts(sort, format, "07;'a"), (((0, 1), 7),))
        self.assertEqual(sure_parts(sort, format, "0"), ())
        self.assertEqual(sure_parts(sort, ("skip",), ""), ())

    def test_parts_behind_many(self):
        one = ("many", ("one", 2), 0, None)
        sort = ("row", (one, one, DIGITS, ("maybe", one), WORD))
        names = ("many", "", "(", ",", ")", ("names", ("n", "y")))
        format = ("row", ((0, names), ";", (1, names), ";", (2, TWO), ";", (3, ("maybe", "-", names)), ";", (4, ("plain",))))
        self.assertEqual(sure_parts(sort, format, "(n,y);;07;(y);ab"),
                         (((0, 0), 0), ((0, 1), 1), ((2,), 7), ((3, 1, 0), 1), ((4,), "ab")))
        self.assertEqual(sure_parts(sort, format, ";(y);07;-;a"), (((1, 0), 1), ((2,), 7), ((3,), None)))

    def test_integers_of_powers_and_other_bases(self):
        sort = ("row", (("int", 0, 900), ("int", -9, 9)))
        format = ("row", ((0, ("powers", 10, "-")), ";", (1, ("figures", 2, "-", 1, 0, "", ""))))
        self.assertEqual(sure_parts(sort, format, "7e2;-10"), (((0,), 700),))
        # No figure may follow: 1010 is above 9.
        self.assertEqual(sure_parts(sort, format, "7e2;-101"), (((0,), 700), ((1,), -5)))
        self.assertEqual(sure_parts(sort, format, "7e2;-1001"), (((0,), 700), ((1,), -9)))
        self.assertEqual(sure_parts(sort, format, "7"), ())

    def test_skipped_values(self):
        sort = ("row", (("one", 1), DIGITS))
        self.assertEqual(sure_marks(sort, ("skip",), ""), ("name 0", "plus"))
        self.assertEqual(sure_parts(sort, ("skip",), ""), (((0,), 0),))
        self.assertEqual(sure_text(sort, ("skip",), ("row", ("a", (0, ("names", ("b",))), "c", (1, ("figures", 10, "+", 1, 0, "", "")))), ""), "abc+")

    def test_all_kinds_go_on(self):
        rng = random.Random(162)
        for sort, format in ENDLESS:
            value = some_value(rng, sort)
            text = write(sort, format, value)
            marks = spelling(sort, format, value)
            known = ()
            for size in range(min(len(text), 12) + 1):
                told = sure_marks(sort, format, text[:size])
                self.assertEqual(told, marks[:len(told)])
                self.assertEqual(told[:len(known)], known)
                known = told

    def test_equal_answers(self):
        self.assertEqual(sure_marks(DATED, SLASHED, "1"), sure_marks(DATED, SLASHED, "1"))


class Rewriting(unittest.TestCase):
    def fed(self, rng, sort, format, other, text, size):
        """Feed a text by pieces of about this size."""
        rewriter = Rewriter(sort, format, other)
        self.assertEqual(rewriter.out, sure_text(sort, format, other, ""))
        at = 0
        while at < len(text):
            piece = text[at:at + rng.randint(0 if size > 0 else 1, max(1, size))]
            before = rewriter.out
            at += len(piece)
            came = rewriter.feed(piece)
            self.assertEqual(rewriter.out, sure_text(sort, format, other, text[:at]))
            self.assertEqual(before + came, rewriter.out)
        return rewriter

    def test_pieces(self):
        rewriter = Rewriter(DATED, SLASHED, BRACKETED)
        self.assertEqual([rewriter.out] + [rewriter.feed(sign) for sign in "12-34"], ["(", "1", "2)", "", "3", "4"])
        self.assertEqual((rewriter.out, rewriter.end(), rewriter.feed("")), ("(12)34", "", ""))

    def test_what_is_left(self):
        rewriter = Rewriter(INT, FIGURES, ("figures", 10, "-", 1, 3, ",", ""))
        self.assertEqual((rewriter.feed("-1234567"), rewriter.end(), rewriter.out), ("-1", ",234,567", "-1"))
        self.assertEqual((rewriter.feed("8"), rewriter.end()), ("", "2,345,678"))
        self.assertEqual(rewritten(INT, FIGURES, ("figures", 10, "-", 1, 3, ",", ""), "-1234567"), "-1,234,567")

    def test_all_kinds(self):
        rng = random.Random(163)
        tried = 0
        while tried < 80:
            sort, format = some_pair(rng, rng.random() < 0.5, rng.choice((1, 2, 3)))
            other = spelled_alike(rng, sort, format)
            if not is_format(sort, other) or not do_spell_alike(sort, format, other):
                continue
            tried += 1
            value = some_value(rng, sort)
            text = write(sort, format, value)[:25]
            with self.subTest((sort, format, other, text)):
                try:
                    rewriter = self.fed(rng, sort, format, other, text, rng.choice((0, 1, 3, 30)))
                    told = Scanner(sort, format)
                    told.feed(text)
                    self.ends_right(rewriter, sort, format, other, text, told)
                except TooLarge:
                    pass

    def ends_right(self, rewriter, sort, format, other, text, scanner):
        values = scanner.readings() if scanner.can_end() else []
        if values is not None and len(values) == 1:
            whole = write(sort, other, values[0])
            self.assertEqual(rewriter.out + rewriter.end(), whole)
            self.assertEqual(rewritten(sort, format, other, text), whole)
            return
        for call in (rewriter.end, lambda: rewritten(sort, format, other, text)):
            with self.assertRaises(BadText if values == [] else ManyValues) as caught:
                call()
            if values == []:
                self.assertEqual(caught.exception.place, len(text))
            else:
                self.assertEqual(caught.exception.text, text)

    def test_nothing_wrong_is_fed(self):
        rewriter = Rewriter(DATED, SLASHED, BRACKETED)
        rewriter.feed("1")
        for piece, place in (("2-3x", 4), ("x", 1), ("2-345", 5), ("\u25a1", 1), ("2 ", 2)):
            with self.assertRaises(BadText) as caught:
                rewriter.feed(piece)
            self.assertEqual((caught.exception.place, rewriter.out), (place, "(1"))
        with self.assertRaises(BadText) as caught:
            rewriter.end()
        self.assertEqual(caught.exception.place, 1)
        self.assertEqual((rewriter.feed("2-3"), rewriter.feed("4"), rewriter.end()), ("2)3", "4", ""))

    def test_several_values_of_one_text(self):
        rewriter = Rewriter(PRICE, LOOSE, ("row", ((0, FIGURES), ".", (1, FIGURES))))
        rewriter.feed("123")
        with self.assertRaises(ManyValues) as caught:
            rewriter.end()
        self.assertEqual(caught.exception.text, "123")
        with self.assertRaises(ManyValues):
            rewritten(PRICE, LOOSE, ("skip",), "123")

    def test_out_may_be_read_again(self):
        rewriter = Rewriter(DATED, SLASHED, BRACKETED)
        self.assertEqual(rewriter.out, "(")
        self.assertEqual(rewriter.out, "(")


class Errors(unittest.TestCase):
    def test_wrong_texts(self):
        for text, place in (("x", 0), ("1x", 1), ("12-345", 5), ("12-x4", 3), (None, 0), (12, 0), (("1",), 0), (["1"], 0), (b"1", 0),
                            ("\u25a1", 0)):
            for call in (lambda: sure_marks(DATED, SLASHED, text), lambda: sure_parts(DATED, SLASHED, text),
                         lambda: sure_text(DATED, SLASHED, BRACKETED, text), lambda: rewritten(DATED, SLASHED, BRACKETED, text)):
                with self.subTest(repr(text)), self.assertRaises(BadText) as caught:
                    call()
                self.assertEqual(caught.exception.place, place)
        for text in ("", "1", "12-", "12-3"):
            sure_marks(DATED, SLASHED, text)
            with self.assertRaises(BadText) as caught:
                rewritten(DATED, SLASHED, BRACKETED, text)
            self.assertEqual(caught.exception.place, len(text))

    def test_formats_that_do_not_spell_alike(self):
        for one, other in ((FIGURES, BITS), (HUGE, BITS), (BITS, HUGE)):
            for call in (lambda: sure_text(INT, one, other, None), lambda: Rewriter(INT, one, other), lambda: rewritten(INT, one, other, "x")):
                with self.assertRaises(BadPair) as caught:
                    call()
                self.assertTrue(hasattr(caught.exception, "why"))

    def test_too_large(self):
        for one, other in ((FIGURES, HUGE), (HUGE, FIGURES), (HUGE, HUGE)):
            for call in (lambda: sure_text(INT, one, other, None), lambda: Rewriter(INT, one, other), lambda: rewritten(INT, one, other, "x")):
                with self.assertRaises(TooLarge) as caught:
                    call()
                self.assertEqual(caught.exception.most, 500)
        for call in (sure_marks, sure_parts):
            with self.assertRaises(TooLarge):
                call(INT, HUGE, None)

    def test_one_text_by_both(self):
        self.assertEqual(sure_text(DIGITS, PADDED, TWO, "0"), "0")
        self.assertEqual(rewritten(DIGITS, PADDED, TWO, "07"), "07")


if __name__ == "__main__":
    unittest.main()
