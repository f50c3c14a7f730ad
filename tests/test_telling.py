"""[30] Formats told apart by the texts of a few values, and those that write some texts."""

import random
import unittest
from itertools import combinations

from readagain.alike import compared, do_spell_alike
from readagain.errors import BadPair, TooLarge
from readagain.machines import machine_of
from readagain.sorts import how_many_values, is_value
from readagain.telling import tells_all, telling_values, written_by
from readagain.writing import write
from tests.making import DIGITS, FIGURES, INT, PADDED, TWO, WORD, all_values, some_format, some_sort, some_values
from tests.reckoning import ODD_THINGS, lists_for_tuples

HUGE = ("checked", 16, 5, FIGURES)
HEXADECIMAL = ("figures", 16, "-", 1, 0, "", "")
PLAIN = ("plain",)
NATURAL = ("int", 0, None)


def some_formats(rng, sort, many):
    """Formats that spell alike, some of them twice or thrice, and some that write alike."""
    found = []
    while len(found) < many:
        format = some_format(rng, sort, 6)
        if found and rng.random() < 0.4:
            format = rng.choice((rng.choice(found), ("pad", rng.choice((0, 1, 4)), "0", ">", rng.choice(found)), ("cut", 8, rng.choice(found))))
        if not found or do_spell_alike(sort, found[0], format):
            found.append(format)
    return tuple(found)


def like_by_texts(sort, formats):
    """The pairs of the numbers of formats that write alike, by all values of a sort."""
    rows = [[write(sort, format, value) for value in all_values(sort)] for format in formats]
    return tuple((one, other) for one, other in combinations(range(len(formats)), 2) if rows[one] == rows[other])


class TellingValues(unittest.TestCase):
    def right(self, sort, formats):
        """Whether what is told is so; the pairs that are told."""
        told = telling_values(sort, formats)
        self.assertEqual((type(told), len(told), type(told[0]), type(told[1])), (tuple, 2, tuple, tuple))
        values, pairs = told
        self.assertLessEqual(len(values), max(0, len(formats) - 1))
        self.assertTrue(all(is_value(sort, value) for value in values))
        self.assertEqual(list(pairs), sorted(set(pairs)))
        for one, other in combinations(range(len(formats)), 2):
            unlike = any(write(sort, formats[one], value) != write(sort, formats[other], value) for value in values)
            self.assertIs(unlike, (one, other) not in pairs)
            self.assertEqual(compared(sort, formats[one], formats[other])[0], "unlike" if unlike else "alike")
        self.assertIs(tells_all(sort, formats, told), True)
        return pairs

    def test_examples(self):
        self.assertEqual((written_by(DIGITS, (TWO, FIGURES, PADDED), ((7, "07"), (12, "12"))), telling_values(DIGITS, (TWO, PADDED))),
                         ((0, 2), ((), ((0, 1),))))

    def test_finitely_many_values(self):
        rng = random.Random(231)
        found = {}
        tried = 0
        while tried < 120:
            sort = some_sort(rng, rng.choice((1, 2, 3)), False)
            if how_many_values(sort) > 200:
                continue
            formats = some_formats(rng, sort, rng.choice((1, 2, 3, 4, 6)))
            with self.subTest((sort, formats)):
                try:
                    pairs = self.right(sort, formats)
                except TooLarge:
                    continue
                self.assertEqual(pairs, like_by_texts(sort, formats))
            tried += 1
            found[len(pairs)] = found.get(len(pairs), 0) + 1
        self.assertGreater(len(found), 4)

    def test_endless_many_values(self):
        rng = random.Random(232)
        for _ in range(40):
            sort = some_sort(rng, rng.choice((1, 2)), True)
            formats = some_formats(rng, sort, rng.choice((2, 3, 4)))
            with self.subTest((sort, formats)):
                try:
                    self.right(sort, formats)
                except TooLarge:
                    pass
        for sort, formats, pairs in (
                (INT, (FIGURES, TWO, PADDED), ()), (NATURAL, (FIGURES, TWO, PADDED), ((1, 2),)),
                (NATURAL, (FIGURES, TWO, PADDED, TWO, FIGURES), ((0, 4), (1, 2), (1, 3), (2, 3))),
                (NATURAL, (FIGURES, ("figures", 10, "-", 1, 4, "-", ""), ("cut", 8, FIGURES)), ()),
                (("word", "ab", 0, None), (PLAIN, ("spelled", (("a", "a"),)), ("skip",), ("cut", 0, PLAIN)), ((0, 1), (2, 3)))):
            self.assertEqual(self.right(sort, formats), pairs)

    def test_one_format_and_none(self):
        self.assertEqual(telling_values(INT, (FIGURES,)), ((), ()))
        self.assertIs(tells_all(INT, (FIGURES,), ((), ())), True)
        self.assertIs(tells_all(INT, (FIGURES,), ((1, 2), ())), True)
        self.assertEqual(telling_values(INT, ()), ((), ()))

    def test_as_few_values_as_formats_less_one(self):
        # Each format differs from the others by its own name alone.
        formats = tuple(("names", tuple("x" if at == number else "y" for at in range(6))) for number in range(6))
        self.assertEqual(self.right(("one", 6), formats), ())

    def test_equal_answers(self):
        told = telling_values(NATURAL, (FIGURES, TWO, PADDED))
        telling_values(INT, (FIGURES, TWO))
        self.assertEqual(telling_values(NATURAL, (FIGURES, TWO, PADDED)), told)


class TellsAll(unittest.TestCase):
    FORMATS = (FIGURES, TWO, PADDED)

    def test_any_number_of_values(self):
        for values in ((5,), (5, 5), (5, 6, 7), (100, 0), (0,)):
            self.assertIs(tells_all(NATURAL, self.FORMATS, (values, ((1, 2),))), True)
        for values in ((), (10,), (100, 10), (99,)):
            self.assertIs(tells_all(NATURAL, self.FORMATS, (values, ((1, 2),))), False)
        self.assertIs(tells_all(INT, self.FORMATS, ((5, -5), ())), True)
        self.assertIs(tells_all(INT, self.FORMATS, ((5,), ())), False)
        # That 5 is written alike doesn't show that all integers are.
        self.assertIs(tells_all(INT, self.FORMATS, ((5,), ((1, 2),))), False)

    def test_things_that_show_nothing(self):
        told = ((5,), ((1, 2),))
        self.assertIs(tells_all(NATURAL, self.FORMATS, told), True)
        for thing in list(ODD_THINGS) + list(lists_for_tuples(told)) + [
                ((5,), ()), ((5,), ((2, 1),)), ((5,), ((1, 2), (1, 2))), ((5,), ((0, 1),)), ((5,), ((0, 1), (1, 2))), ((5,), ((True, 2),)),
                ((5,), ((1, 2, 0),)), ((5,), ((1.0, 2),)), ((5,), (("1", "2"),)), ((5,), ((1, 2), None)), ((5,), ((1, 1), (1, 2))),
                ((5,), ((1, 9),)), ((5,), ((-2, 2),)), ((True, 5), ((1, 2),)), ((5, None), ((1, 2),)), ((5, -5), ((1, 2),)), (5, ((1, 2),)),
                (("5",), ((1, 2),)), ((5.0,), ((1, 2),)), ((5,),), ((5,), ((1, 2),), ()), ({5: 1}, ((1, 2),)), ((5,), {(1, 2): 1}),
                ((5,), 12), ((5,), None), ((5,), (1, 2)), (None, ((1, 2),))]:
            with self.subTest(repr(thing)):
                self.assertIs(tells_all(NATURAL, self.FORMATS, thing), False)
        pairs = ((0, 1), (0, 3), (1, 3))
        formats = (FIGURES, FIGURES, TWO, FIGURES)
        self.assertIs(tells_all(NATURAL, formats, ((1,), pairs)), True)
        for thing in (pairs[::-1], pairs[:2], pairs[1:], pairs + pairs[:1], pairs + ((2, 3),)):
            self.assertIs(tells_all(NATURAL, formats, ((1,), thing)), False)
        for thing in (((False, 1), (0, 3), (1, 3)), ((0, True), (0, 3), (1, 3)), ((0, 1), (0, 3), (True, 3))):
            self.assertEqual(thing, pairs)
            self.assertIs(tells_all(NATURAL, formats, ((1,), thing)), False)

    def test_drawn_things(self):
        rng = random.Random(233)
        answers = {True: 0, False: 0}
        while min(answers.values()) < 100:
            sort = some_sort(rng, rng.choice((1, 2)), False)
            if how_many_values(sort) > 100:
                continue
            formats = some_formats(rng, sort, rng.choice((2, 3)))
            like = like_by_texts(sort, formats)
            for _ in range(5):
                values = tuple(some_values(rng, sort, rng.choice((1, 2, 5))))
                pairs = rng.choice((like, like, like[1:], tuple(combinations(range(len(formats)), 2))))
                rows = [[write(sort, format, value) for value in values] for format in formats]
                wanted = pairs == like and all(
                    (rows[one] == rows[other]) == ((one, other) in like) for one, other in combinations(range(len(formats)), 2))
                try:
                    answer = tells_all(sort, formats, (values, pairs))
                except TooLarge:
                    break
                self.assertIs(answer, wanted, (sort, formats, values, pairs))
                answers[answer] += 1


class WrittenBy(unittest.TestCase):
    def test_drawn_ones(self):
        rng = random.Random(234)
        found = {}
        for _ in range(300):
            sort = some_sort(rng, rng.choice((1, 2, 3)), True)
            formats = tuple(some_format(rng, sort, 6) for _ in range(rng.randint(1, 5)))
            writer = rng.choice(formats)
            rows = tuple((value, write(sort, writer, value)) for value in some_values(rng, sort, 3)[:3])
            if rng.random() < 0.2:
                rows = rows[:-1] + ((rows[-1][0], rows[-1][1] + "x"),)
            told = written_by(sort, formats, rows)
            self.assertEqual(told, tuple(number for number, format in enumerate(formats)
                                         if all(write(sort, format, value) == text for value, text in rows)))
            found[len(told)] = found.get(len(told), 0) + 1
        self.assertGreater(min(found.get(0, 0), found.get(1, 0), found.get(2, 0)), 12)

    def test_no_rows_and_no_machines(self):
        self.assertEqual(written_by(INT, (FIGURES, HUGE), ()), (0, 1))
        self.assertEqual(written_by(INT, (FIGURES, HUGE, HEXADECIMAL, HUGE), ((7, write(INT, HUGE, 7)),)), (1, 3))
        self.assertEqual(written_by(INT, (), ((7, "7"),)), ())
        self.assertEqual(written_by(INT, (FIGURES, HEXADECIMAL), ((7, "7"), (10, "10"), (10, "a"))), ())
        self.assertEqual(written_by(INT, (FIGURES,), [(7, "7"), (8, "8")]), (0,))


class Errors(unittest.TestCase):
    def test_formats_that_do_not_spell_alike(self):
        powers = ("powers", 10, "-")
        for sort, formats in ((INT, (FIGURES, HEXADECIMAL)), (INT, (FIGURES, TWO, HEXADECIMAL)), (DIGITS, (FIGURES, powers)),
                              (INT, (HEXADECIMAL, ("skip",))), (INT, (HUGE, HEXADECIMAL)), (INT, (HEXADECIMAL, FIGURES, HUGE)),
                              (("maybe", INT), (("skip",), ("maybe", "", HEXADECIMAL)))):
            for call in (lambda: telling_values(sort, formats), lambda: tells_all(sort, formats, None), lambda: tells_all(sort, formats, ((), ()))):
                with self.subTest((sort, formats)), self.assertRaises(BadPair) as caught:
                    call()
                self.assertIsNotNone(caught.exception.why)

    def test_too_large(self):
        self.assertRaises(TooLarge, machine_of, INT, HUGE)
        for formats in ((HUGE,), (HUGE, FIGURES), (FIGURES, HUGE), (FIGURES, FIGURES, TWO, HUGE), (HUGE, HUGE)):
            for call in (lambda: telling_values(INT, formats), lambda: tells_all(INT, formats, None)):
                with self.subTest(formats), self.assertRaises(TooLarge) as caught:
                    call()
                self.assertEqual(caught.exception.most, 500)

    def test_words_need_no_like_figures(self):
        self.assertEqual(telling_values(WORD, (PLAIN, ("quoted", "'", "!"), ("skip",)))[1], ())


if __name__ == "__main__":
    unittest.main()
