"""[2] [3] Sorts, and their values."""

import copy
import unittest

from readagain.errors import BadSort, FormatError
from readagain.sorts import check_sort, how_many_values, is_sort, is_value
from tests.making import DIGITS, INT, WORD, all_values

ONE = ("one", 2)
SIGNS = "".join(chr(code) for code in range(32, 127) if chr(code) != "%")
STRANGE = [None, True, False, 0, 1, -1, 1.0, "", "a", "int", b"int", (), [], {}, set(), object(), (1,), ((),), ("x",),
           float("nan"), lambda: 0, ("int",), ["int", 0, 9], ("int", 0), ("int", 0, 9, 9), (0, 9), ("INT", 0, 9),
           (["int"], 0, 9), ({}, 0, 9), (None, 0, 9), (("int", 0, 9),), {"int": 0}]

RIGHT = [
    ("int", None, None), ("int", 0, None), ("int", None, 0), ("int", 3, 3), ("int", -999999999, 999999999),
    ("int", 999999999, None), ("int", None, -999999999),
    ("word", "a", 0, 0), ("word", "abcdefghijkl", 8, 12), ("word", " ~", 8, 8), ("word", "ab", 0, None),
    ("word", SIGNS[:12], 0, 1), ("word", SIGNS[-12:], 8, None), ("word", "!\"#$&", 0, 12),
    ("one", 1), ("one", 12),
    ("maybe", ONE), ("maybe", ("maybe", ("maybe", ONE))),
    ("row", ()), ("row", (ONE,)), ("row", (ONE,) * 6), ("row", (("row", (("row", (("row", ()),)),)),)),
    ("many", ONE, 0, None), ("many", ONE, 8, 8), ("many", ONE, 8, 12), ("many", ONE, 0, 0), ("many", INT, 3, 3),
    ("case", (ONE,)), ("case", (ONE,) * 6),
    ("row", (("row", (ONE,) * 6), ("row", (ONE,) * 6), ONE)),
]

WRONG = [
    ("int", 0), ("int", 0, 1, 2), ("int", 1, 0), ("int", -999999999, -1000000000), ("int", 1000000000, None),
    ("int", None, 1000000000), ("int", -1000000000, None), ("int", True, 3), ("int", 0, True), ("int", False, None),
    ("int", 0.0, 1), ("int", "0", "1"), ["int", 0, 1], ("int", 0, 1.0), ("int", None, ()),
    ("word", "", 0, 1), ("word", "ba", 0, 1), ("word", "aa", 0, 1), ("word", "abcdefghijklm", 0, 1),
    ("word", "a%", 0, 1), ("word", "%", 0, 1), ("word", "a\x7f", 0, 1), ("word", "\x1fa", 0, 1), ("word", "a\n", 0, 1),
    ("word", "\u00e4", 0, 1), ("word", b"a", 0, 1), ("word", ("a",), 0, 1), ("word", ["a"], 0, 1), ("word", None, 0, 1),
    ("word", "a", -1, 1), ("word", "a", 9, 9), ("word", "a", 9, None), ("word", "a", 2, 1), ("word", "a", 0, 13),
    ("word", "a", None, 1), ("word", "a", True, 1), ("word", "a", 0, True), ("word", "a", 0, 1.0), ("word", "a", 0),
    ("word", "a", 0, 1, 2), ["word", "a", 0, 1],
    ("one", 0), ("one", 13), ("one", True), ("one", 1.0), ("one", None), ("one", "1"), ("one",), ("one", 1, 2),
    ["one", 1],
    ("maybe",), ("maybe", ONE, ONE), ("maybe", None), ("maybe", (ONE,)), ("maybe", list(ONE)), ["maybe", ONE],
    ("maybe", ("one", 0)),
    ("row", [ONE]), ("row", []), ("row", (ONE,) * 7), ("row", ONE), ("row", (list(ONE),)), ("row",), ("row", (), ()),
    ("row", None), ("row", (None,)), ["row", ()], ("row", {}), ("row", "ab"),
    ("many", ONE, -1, 1), ("many", ONE, 9, None), ("many", ONE, 2, 1), ("many", ONE, 0, 13), ("many", ONE, 0),
    ("many", ONE, 0, 1, 2), ("many", ONE, True, 1), ("many", ONE, 0, True), ("many", (ONE,), 0, 1),
    ("many", None, 0, 1), ["many", ONE, 0, 1], ("many", ONE, None, 1), ("many", 0, ONE, 1),
    ("case", ()), ("case", (ONE,) * 7), ("case", [ONE]), ("case", ONE), ("case",), ("case", (ONE,), 1),
    ["case", (ONE,)], ("case", (ONE, None)),
]


def nested(sort, many):
    for _ in range(many):
        sort = ("maybe", sort)
    return sort


class Sorts(unittest.TestCase):
    def test_examples(self):
        self.assertEqual(
            (is_sort(WORD), is_sort(("word", "ba", 0, 2)), is_value(WORD, "ab"), is_value(WORD, "c"),
             how_many_values(WORD), how_many_values(("many", WORD, 0, None))),
            (True, False, True, False, 7, None))

    def test_right_ones(self):
        for sort in RIGHT:
            with self.subTest(sort):
                self.assertIs(is_sort(sort), True)
                self.assertIsNone(check_sort(sort))

    def test_ones_with_something_wrong(self):
        for thing in WRONG + STRANGE:
            with self.subTest(repr(thing)):
                self.assertIs(is_sort(thing), False)
                with self.assertRaises(BadSort) as caught:
                    check_sort(thing)
                self.assertTrue(hasattr(caught.exception, "thing"))
                self.assertIsInstance(caught.exception, FormatError)
                self.assertFalse(is_sort(("maybe", thing)))
                self.assertFalse(is_sort(("row", (ONE, thing))))
                self.assertFalse(is_sort(("case", (ONE, thing))))
                self.assertFalse(is_sort(("many", thing, 0, None)))

    def test_how_deep(self):
        self.assertTrue(is_sort(nested(ONE, 3)))
        self.assertFalse(is_sort(nested(ONE, 4)))
        self.assertTrue(is_sort(nested(("row", ()), 3)))
        self.assertFalse(is_sort(nested(("row", ()), 4)))
        self.assertTrue(is_sort(("many", ("case", (("row", (ONE,)),)), 0, 1)))
        self.assertFalse(is_sort(("maybe", ("many", ("case", (("row", (ONE,)),)), 0, 1))))
        self.assertFalse(is_sort(nested(ONE, 100000)))

    def test_how_many_in_all(self):
        fifteen = ("row", (("row", (ONE,) * 6), ("row", (ONE,) * 6)))
        self.assertTrue(is_sort(fifteen))
        self.assertTrue(is_sort(("maybe", fifteen)))
        self.assertTrue(is_sort(("row", fifteen[1] + (ONE,))))
        self.assertFalse(is_sort(("row", fifteen[1] + (ONE, ONE))))
        self.assertFalse(is_sort(("maybe", ("row", fifteen[1] + (ONE,)))))
        self.assertFalse(is_sort(("row", (("row", (("row", (ONE,) * 6),) * 6),) * 6)))

    def test_equal_answers_and_unchanged_things(self):
        thing = ["int", 0, [1]]
        before = copy.deepcopy(thing)
        self.assertEqual([is_sort(thing), is_sort(thing)], [False, False])
        self.assertEqual(thing, before)
        self.assertEqual([is_sort(("one", 1)), is_sort(("one", True)), is_sort(("one", 1))], [True, False, True])


class Values(unittest.TestCase):
    VALUES = [
        (INT, [0, -1, 10 ** 50, -10 ** 50]),
        (DIGITS, [0, 99, 50]),
        (("int", None, -3), [-3, -4]),
        (("int", 5, None), [5, 10 ** 12]),
        (WORD, ["", "a", "ba", "bb"]),
        (("word", "ab", 1, None), ["a", "ab" * 20]),
        (("one", 3), [0, 1, 2]),
        (("maybe", DIGITS), [None, ("some", 0), ("some", 99)]),
        (("maybe", ("maybe", DIGITS)), [None, ("some", None), ("some", ("some", 3))]),
        (("row", ()), [()]),
        (("row", (DIGITS, WORD)), [(1, "a"), (99, "")]),
        (("many", DIGITS, 0, None), [(), (1,), (1,) * 40]),
        (("many", DIGITS, 1, 2), [(1,), (1, 2)]),
        (("case", (DIGITS, WORD)), [(0, 5), (1, "b")]),
    ]
    NONE = [
        (INT, [None, True, False, 1.0, "1", (), (1,), [1]]),
        (DIGITS, [-1, 100, True, None, "5"]),
        (("int", None, -3), [-2, 0]),
        (("int", 5, None), [4, -5]),
        (WORD, ["c", "aba", "abc", None, 1, ("a",), ["a"], b"a", "A", ("a", "b")]),
        (("word", "ab", 1, None), ["", "ac", "%"]),
        (("one", 3), [-1, 3, True, None, "0", 1.0, (0,)]),
        (("maybe", DIGITS), [0, ("some",), ("some", 100), ("some", True), ["some", 1], ("some", 1, 2), "none", (),
                             ("none", 1), (None, 1), ("some", None), (["some"], 1)]),
        (("maybe", ("maybe", DIGITS)), [("some", 3), ("some", ("some", None)), False]),
        (("row", ()), [[], None, (1,), 0, ""]),
        (("row", (DIGITS, WORD)), [(1,), (1, "a", 2), [1, "a"], ("a", 1), (1, "c"), (True, "a"), None, "1a"]),
        (("many", DIGITS, 0, None), [[], [1], (100,), (True,), 1, None, "", "1", {1: 1}]),
        (("many", DIGITS, 1, 2), [(), (1, 2, 3), [1]]),
        (("case", (DIGITS, WORD)), [(0, "a"), (1, 5), (2, 5), (-1, "a"), (False, 5), (True, "a"), (0,), (0, 5, 5),
                                    [0, 5], None, 0, ("0", 5), (0.0, 5)]),
    ]

    def test_values(self):
        for sort, values in self.VALUES:
            for value in values:
                with self.subTest((sort, value)):
                    self.assertIs(is_value(sort, value), True)

    def test_things_that_are_none(self):
        for sort, things in self.NONE:
            for thing in things:
                with self.subTest((sort, thing)):
                    self.assertIs(is_value(sort, thing), False)
                    self.assertIs(is_value(("row", (sort,)), (thing,)), False)
                    self.assertIs(is_value(("many", sort, 0, None), (thing,)), False)
                    self.assertIs(is_value(("maybe", sort), ("some", thing)), False)
                    self.assertIs(is_value(("case", (sort,)), (0, thing)), False)

    def test_strange_things(self):
        for sort in (INT, WORD, ONE, ("maybe", ONE), ("row", (ONE,)), ("many", ONE, 1, 2), ("case", (ONE,))):
            for thing in [thing for thing in STRANGE[6:] if thing != (1,)]:
                if not (sort == INT and isinstance(thing, int)) and not (sort[0] == "word" and isinstance(thing, str)):
                    with self.subTest((sort, repr(thing))):
                        self.assertIs(is_value(sort, thing), False)


class Counts(unittest.TestCase):
    def test_how_many(self):
        cases = [
            (DIGITS, 100), (("int", -3, 3), 7), (INT, None), (("int", 0, None), None), (("int", None, 0), None),
            (("word", "abc", 0, 3), 40), (("word", "abc", 2, 2), 9), (("word", "a", 0, None), None),
            (("word", "abc", 0, 0), 1), (("word", "abcdefghijkl", 8, 12), sum(12 ** n for n in range(8, 13))),
            (("one", 12), 12), (("maybe", ("one", 3)), 4), (("maybe", INT), None),
            (("row", ()), 1), (("row", (DIGITS, ("one", 3))), 300), (("row", (DIGITS, INT)), None),
            (("many", ("one", 3), 0, 2), 13), (("many", ("one", 1), 0, None), None), (("many", INT, 0, 0), 1),
            (("many", INT, 0, 1), None), (("many", ("row", ()), 2, 5), 4),
            (("case", (("one", 3), DIGITS)), 103), (("case", (("one", 3), INT)), None)]
        for sort, many in cases:
            with self.subTest(sort):
                self.assertEqual(how_many_values(sort), many)

    def test_against_a_listing(self):
        for sort in (WORD, ("maybe", ("many", ("one", 2), 1, 3)), ("case", (WORD, ("row", (ONE, WORD)), ("row", ()))),
                     ("many", ("maybe", ("one", 3)), 0, 3), ("row", (("int", -2, 2), ("case", (ONE, WORD))))):
            with self.subTest(sort):
                values = all_values(sort)
                self.assertEqual(how_many_values(sort), len(values))
                self.assertEqual(len(set(values)), len(values))
                self.assertTrue(all(is_value(sort, value) for value in values))

    def test_great_numbers(self):
        sort = ("many", ("many", ("word", "abcdefghijkl", 0, 12), 0, 12), 0, 12)
        words = sum(12 ** n for n in range(13))
        rows = sum(words ** n for n in range(13))
        self.assertEqual(how_many_values(sort), sum(rows ** n for n in range(13)))


if __name__ == "__main__":
    unittest.main()
