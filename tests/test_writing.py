"""[5] Texts of values."""

import copy
import random
import unittest

from readagain.writing import write
from tests.making import DIGITS, FIGURES, GROUPED, INT, LOOSE, PRICE, TIGHT, WORD, some_pair, some_values

SIGNS = "".join(chr(code) for code in range(32, 127) if chr(code) != "%")


def figures(base, sign="-", least=1, group=0, mark="", ahead=""):
    return ("figures", base, sign, least, group, mark, ahead)


class Writing(unittest.TestCase):
    def texts(self, sort, format, pairs):
        for value, text in pairs:
            with self.subTest((format, value)):
                self.assertEqual(write(sort, format, value), text)

    def test_examples(self):
        self.assertEqual((write(PRICE, LOOSE, (1, 23)), write(PRICE, LOOSE, (12, 3)), write(PRICE, TIGHT, (12, 3))),
                         ("123", "123", "1203"))
        self.assertEqual((write(INT, GROUPED, 1234567), write(INT, GROUPED, -12),
                          write(("int", 0, 999), ("powers", 10, "-"), 700)), ("+1,234,567", "-00,012", "7e2"))
        self.assertEqual(
            write(("many", WORD, 0, None), ("many", "none", "[", "; ", "]", ("quoted", "'", "a")), ("ab", "")),
            "['aab'; '']")

    def test_figures(self):
        self.texts(INT, FIGURES, [(0, "0"), (7, "7"), (-7, "-7"), (120, "120"), (10 ** 30, "1" + "0" * 30)])
        self.texts(INT, figures(10, "+"), [(0, "+0"), (5, "+5"), (-5, "-5")])
        self.texts(INT, figures(10, " "), [(0, " 0"), (5, " 5"), (-5, "-5")])
        self.texts(INT, figures(16), [(255, "ff"), (-2748, "-abc"), (16, "10"), (15, "f")])
        self.texts(INT, figures(2), [(5, "101"), (-1, "-1"), (0, "0")])
        self.texts(INT, figures(10, "-", 3), [(0, "000"), (7, "007"), (-7, "-007"), (100, "100"), (1234, "1234")])
        self.texts(INT, figures(16, "+", 2, 0, "", "0x"), [(10, "+0x0a"), (-10, "-0x0a"), (0, "+0x00"), (999, "+0x3e7")])

    def test_groups(self):
        self.texts(INT, figures(10, "-", 1, 3, ","), [
            (0, "0"), (123, "123"), (1234, "1,234"), (123456, "123,456"), (1234567, "1,234,567"), (-1000, "-1,000")])
        self.texts(INT, figures(10, "-", 1, 2, "."), [(1, "1"), (12, "12"), (123, "1.23"), (12345, "1.23.45")])
        self.texts(INT, figures(2, "-", 6, 4, "_", "0b"), [(3, "0b00_0011"), (255, "0b1111_1111"), (-511, "-0b1_1111_1111")])
        self.texts(INT, figures(10, "-", 7, 3, ","), [(0, "0,000,000"), (12, "0,000,012"), (12345678, "12,345,678")])
        self.texts(INT, figures(10, "-", 4, 4, "-"), [(12, "0012"), (10000, "1-0000")])

    def test_powers(self):
        sort = ("int", -1000, 5000)
        self.texts(sort, ("powers", 10, "-"), [
            (0, "0"), (7, "7"), (70, "7e1"), (700, "7e2"), (120, "12e1"), (123, "123"), (-500, "-5e2"), (1, "1")])
        self.texts(sort, ("powers", 2, "+"), [(0, "+0"), (1024, "+1e10"), (12, "+11e2"), (-6, "-11e1"), (7, "+111")])
        self.texts(sort, ("powers", 3, " "), [(9, " 1e2"), (6, " 2e1"), (0, " 0"), (10, " 101")])

    def test_words(self):
        sort = ("word", "'abc", 0, None)
        self.texts(sort, ("plain",), [("", ""), ("abc", "abc")])
        self.texts(sort, ("spelled", (("a", "xyz"), ("b", "a"), ("z", "q"))), [("", ""), ("abca", "xyzacxyz")])
        self.texts(sort, ("quoted", "'", "a"), [("", "''"), ("b", "'b'"), ("a'b", "'aaa'b'")])
        self.texts(sort, ("quoted", "\"", "b"), [("b'", "\"bb'\""), ("a", "\"a\"")])

    def test_names_maybe_and_case(self):
        self.texts(("one", 3), ("names", ("no", "", "yes")), [(0, "no"), (1, ""), (2, "yes")])
        sort = ("maybe", ("maybe", DIGITS))
        self.texts(sort, ("maybe", "none", ("maybe", "-", FIGURES)), [
            (None, "none"), (("some", None), "-"), (("some", ("some", 5)), "5")])
        self.texts(("case", (DIGITS, WORD)), ("case", (FIGURES, ("quoted", "'", "a"))), [((0, 12), "12"), ((1, "a"), "'aa'")])

    def test_rows_and_many(self):
        self.texts(("row", (DIGITS, WORD)), ("row", ("x=", (0, FIGURES), ", ", "y=", (1, ("plain",)), ".")), [
            ((5, "ab"), "x=5, y=ab."), ((0, ""), "x=0, y=.")])
        self.texts(("row", ()), ("row", ("a", "b")), [((), "ab")])
        self.texts(("row", ()), ("row", ()), [((), "")])
        self.texts(("many", DIGITS, 0, None), ("many", "-", "(", ";", ")", FIGURES), [
            ((), "-"), ((1,), "(1)"), ((1, 2, 3), "(1;2;3)")])

    def test_pads(self):
        self.texts(INT, ("pad", 4, ".", "<", FIGURES), [(1, "1..."), (-12, "-12."), (1234, "1234"), (12345, "12345")])
        self.texts(INT, ("pad", 4, ".", ">", FIGURES), [(1, "...1"), (-12, ".-12"), (1234, "1234")])
        self.texts(INT, ("pad", 4, ".", "^", FIGURES), [(1, ".1.."), (12, ".12."), (123, "123."), (1234, "1234")])
        self.texts(INT, ("pad", 0, ".", "^", FIGURES), [(1, "1")])
        self.texts(WORD, ("pad", 3, "a", "^", ("plain",)), [("", "aaa"), ("b", "aba"), ("bb", "bba")])

    def test_cut_and_skip(self):
        self.texts(INT, ("cut", 2, FIGURES), [(1, "1"), (12, "12"), (123, "12"), (-123, "-1")])
        self.texts(INT, ("cut", 0, FIGURES), [(1, ""), (-123, "")])
        self.texts(PRICE, ("skip",), [((1, 2), "")])
        self.texts(INT, ("pad", 3, "*", "<", ("skip",)), [(5, "***"), (-5, "***")])

    def test_pad_in_cut_and_cut_in_pad(self):
        self.texts(INT, ("cut", 3, ("pad", 5, ".", ">", FIGURES)), [(1, "..."), (1234, ".12"), (12345, "123")])
        self.texts(INT, ("pad", 5, ".", ">", ("cut", 3, FIGURES)), [(1, "....1"), (1234, "..123")])
        self.texts(INT, ("pad", 5, ".", "<", ("pad", 3, "-", ">", FIGURES)), [(1, "--1.."), (1234, "1234.")])

    def test_checked(self):
        # 1 * 1 + 2 * 3 + 3 * 9 = 34, and 34 is 3 * 11 + 1
        self.texts(INT, ("checked", 11, 3, FIGURES), [(123, "1231"), (0, "00"), (10, "101"), (5, "55")])
        self.texts(INT, ("checked", 16, 1, figures(16)), [(255, "ffe"), (15, "ff"), (10, "aa")])
        self.texts(INT, ("pad", 6, "0", ">", ("checked", 7, 2, FIGURES)), [(12, "000125")])
        self.texts(INT, ("checked", 7, 2, ("checked", 11, 3, FIGURES)), [(5, "551")])
        self.texts(WORD, ("checked", 7, 2, ("skip",)), [("ab", "0")])

    def test_what_each_sign_counts(self):
        for sign in SIGNS:
            worth = int(sign, 16) if sign in "0123456789abcdef" else SIGNS.index(sign)
            for modulus in (2, 10, 13, 16):
                with self.subTest((sign, modulus)):
                    self.assertEqual(write(("word", sign, 1, 1), ("checked", modulus, 1, ("plain",)), sign),
                                     sign + "0123456789abcdef"[worth % modulus])

    def test_a_great_integer(self):
        self.assertEqual(write(INT, figures(10, "-", 1, 3, ","), -10 ** 6000), "-1" + ",000" * 2000)

    def test_equal_answers_and_unchanged_arguments(self):
        rng = random.Random(5)
        for _ in range(100):
            sort, format = some_pair(rng, True)
            kept = copy.deepcopy((sort, format))
            for value in some_values(rng, sort, 5):
                before = copy.deepcopy(value)
                self.assertEqual(write(sort, format, value), write(sort, format, value))
                self.assertEqual(value, before)
            self.assertEqual((sort, format), kept)


if __name__ == "__main__":
    unittest.main()
