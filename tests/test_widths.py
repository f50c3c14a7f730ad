"""[16] Least widths, [17] least texts between."""

import random
import unittest
from itertools import product

from readagain.errors import BadThing, TooLarge
from readagain.formats import is_format
from readagain.machines import machine_of
from readagain.sorts import how_many_values
from readagain.verdicts import are_twins, is_closed, verdict
from readagain.widths import are_least_widths, is_least_between, least_between, least_widths, widths_of, with_widths
from readagain.writing import write
from tests.making import DIGITS, FIGURES, INT, PADDED, PRICE, TIGHT, WORD, all_values, some_format, some_sort
from tests.reckoning import ODD_THINGS, lists_for_tuples
from tests.test_machines import BOUNDED

HUGE = ("checked", 16, 5, FIGURES)
NATURAL = ("int", 0, None)
LISTED = ("many", NATURAL, 0, None)
BARE = ("many", "", "", "", "", FIGURES)
EVERYWHERE = ("row", (
    (0, ("pad", 1, "a", "<", ("checked", 3, 2, ("pad", 2, "b", ">", ("plain",))))), "x",
    (1, ("maybe", "n", ("cut", 8, ("many", "", "", ",", "", ("pad", 3, "0", ">", FIGURES))))),
    (2, ("case", (("pad", 4, "c", "^", ("names", ("a", "b"))), ("pad", 5, " ", "<", ("skip",)))))))
EVERYWHERE_SORT = ("row", (WORD, ("maybe", ("many", NATURAL, 0, None)), ("case", (("one", 2), ("row", ())))))


def all_unlike(sort, format):
    texts = [write(sort, format, value) for value in all_values(sort)]
    return len(set(texts)) == len(texts)


def padded_pair(rng):
    """A sort with finitely many values, few, and a format with 1 to 3 pads."""
    while True:
        sort = some_sort(rng, rng.choice((1, 2, 3)), False)
        format = some_format(rng, sort, 7)
        if how_many_values(sort) <= 150 and is_format(sort, format) and 1 <= len(widths_of(format)) <= 3:
            return sort, format


class Widths(unittest.TestCase):
    def test_widths_in_their_order(self):
        self.assertEqual(widths_of(TIGHT), (2,))
        self.assertTrue(is_format(EVERYWHERE_SORT, EVERYWHERE))
        self.assertEqual(widths_of(EVERYWHERE), (1, 2, 3, 4, 5))
        for format in (FIGURES, ("skip",), ("plain",), ("quoted", "a", "b"), ("spelled", (("a", "b"),)), ("names", ("a",)),
                       ("powers", 2, "-"), ("row", ("ab",)), BARE):
            self.assertEqual(widths_of(format), ())
            self.assertEqual(with_widths(format, ()), format)

    def test_other_widths(self):
        self.assertEqual(with_widths(EVERYWHERE, widths_of(EVERYWHERE)), EVERYWHERE)
        changed = with_widths(EVERYWHERE, (8, 7, 0, 6, 0))
        self.assertEqual(widths_of(changed), (8, 7, 0, 6, 0))
        self.assertEqual(with_widths(changed, (1, 2, 3, 4, 5)), EVERYWHERE)
        self.assertEqual(with_widths(PADDED, (0,)), ("pad", 0, "0", ">", FIGURES))
        self.assertEqual(with_widths(("pad", 1, "a", "<", PADDED), (3, 4)), ("pad", 3, "a", "<", ("pad", 4, "0", ">", FIGURES)))

    def test_no_widths(self):
        for widths in ((), (1, 2), (9,), (-1,), (True,), ("1",), (1.0,), (None,), [2], 2, None, "2", ((2,),), {2: 2}):
            with self.subTest(repr(widths)), self.assertRaises(BadThing) as caught:
                with_widths(PADDED, widths)
            self.assertEqual(caught.exception.thing, widths)
        with self.assertRaises(BadThing):
            with_widths(FIGURES, (1,))

    def test_no_machine_is_needed(self):
        self.assertEqual(widths_of(("pad", 3, "a", "<", HUGE)), (3,))
        self.assertEqual(with_widths(("pad", 3, "a", "<", HUGE), (4,)), ("pad", 4, "a", "<", HUGE))


class LeastWidths(unittest.TestCase):
    def right(self, sort, format, most, told, can_be_read):
        """Whether what is told is what the words say, can_be_read telling of a format whether it can be read back."""
        rows = sorted(product(range(most + 1), repeat=len(widths_of(format))), key=lambda row: (sum(row), row))
        good = [row for row in rows if can_be_read(with_widths(format, row))]
        self.assertEqual((type(told), len(told)), (tuple, 3))
        widths, pairs, twins = told
        if good:
            self.assertEqual(widths, good[0])
            self.assertEqual(verdict(sort, with_widths(format, widths)), ("readable", pairs))
        else:
            self.assertEqual((widths, pairs), (None, None))
        ahead = rows[:rows.index(good[0])] if good else rows
        self.assertEqual([row[0] for row in twins], ahead)
        self.assertIs(type(twins), tuple)
        for row in twins:
            self.assertEqual((type(row), len(row)), (tuple, 3))
            self.assertIs(are_twins(sort, with_widths(format, row[0]), row[1], row[2]), True)
        self.assertIs(are_least_widths(sort, format, most, told), True)
        return good

    def test_example(self):
        told = least_widths(PRICE, TIGHT, 4)
        self.assertEqual((widths_of(TIGHT), told[0], [row[0] for row in told[2]], are_least_widths(PRICE, TIGHT, 4, told)),
                         ((2,), (2,), [(0,), (1,)], True))

    def test_none_will_do(self):
        told = least_widths(PRICE, TIGHT, 1)
        self.assertEqual((told[:2], [row[0] for row in told[2]]), ((None, None), [(0,), (1,)]))
        self.assertIs(are_least_widths(PRICE, TIGHT, 1, told), True)
        told = least_widths(DIGITS, ("pad", 3, "0", "<", ("cut", 1, FIGURES)), 8)
        self.assertEqual((told[0], len(told[2])), (None, 9))

    def test_the_first_ones_will_do(self):
        told = least_widths(DIGITS, PADDED, 0)
        self.assertEqual(told, ((0,), verdict(DIGITS, ("pad", 0, "0", ">", FIGURES))[1], ()))

    def test_several_pads(self):
        sort = ("row", (("int", 0, 20), ("int", 0, 20), ("int", 0, 9)))
        format = ("row", tuple((at, ("pad", 3, "0", ">", FIGURES)) for at in range(3)))
        good = self.right(sort, format, 2, least_widths(sort, format, 2), lambda changed: all_unlike(sort, changed))
        self.assertEqual(good[0], (0, 2, 0))

    def test_by_their_sum_then_ascending(self):
        sort = ("row", (("int", 0, 20), ("int", 0, 20)))
        format = ("row", tuple((at, ("pad", 3, "x", "<", FIGURES)) for at in range(2)))
        told = least_widths(sort, format, 3)
        self.assertEqual((told[0], [row[0] for row in told[2]]), ((0, 2), [(0, 0), (0, 1), (1, 0)]))
        told = least_widths(sort, format[:1] + (((0, ("pad", 3, "x", "<", FIGURES)), (1, ("pad", 3, "1", ">", FIGURES))),), 3)
        self.assertEqual([row[0] for row in told[2]],
                         sorted([row[0] for row in told[2]], key=lambda row: (sum(row), row)))
        self.assertEqual((told[0], len(told[2])), ((2, 0), 5))

    def test_pads_of_all_kinds(self):
        rng = random.Random(81)
        found = {True: 0, False: 0}
        while min(found.values()) < 20:
            sort, format = padded_pair(rng)
            most = rng.choice((0, 1, 2, 3)) if len(widths_of(format)) < 3 else rng.choice((0, 1, 2))
            with self.subTest((sort, format, most)):
                try:
                    told = least_widths(sort, format, most)
                except TooLarge:
                    continue
                good = self.right(sort, format, most, told, lambda changed: all_unlike(sort, changed))
                found[bool(good)] += 1

    def test_wrong_mosts(self):
        for most in (-1, 9, True, None, "2", 2.0, (2,), [2]):
            for call in (lambda: least_widths(PRICE, TIGHT, most), lambda: are_least_widths(PRICE, TIGHT, most, None),
                         lambda: least_widths(INT, ("pad", 1, "0", ">", HUGE), most)):
                with self.subTest(repr(most)), self.assertRaises(BadThing) as caught:
                    call()
                self.assertEqual(caught.exception.thing, most)

    def test_other_numbers_of_pads(self):
        four = ("row", tuple((at, PADDED) for at in range(4)))
        nested = FIGURES
        for _ in range(4):
            nested = ("pad", 1, "0", "<", nested)
        beside = ("row", ((0, PADDED), (1, ("pad", 1, "0", "<", PADDED)), (2, PADDED)))
        for sort, format in ((DIGITS, FIGURES), (DIGITS, ("cut", 1, FIGURES)), (DIGITS, ("skip",)), (DIGITS, nested), (INT, HUGE),
                             (("row", (DIGITS,) * 4), four), (("row", (DIGITS,) * 3), beside), (EVERYWHERE_SORT, EVERYWHERE)):
            for most in (0, 1, 8, 9, True, None):
                for call in (lambda: least_widths(sort, format, most), lambda: are_least_widths(sort, format, most, None),
                             lambda: are_least_widths(sort, format, most, ((), (), ()))):
                    with self.subTest((sort, format, most)), self.assertRaises(BadThing) as caught:
                        call()
                    self.assertIs(caught.exception.thing, most)

    def test_one_to_three_pads(self):
        for many in (1, 2, 3):
            format = FIGURES
            for _ in range(many):
                format = ("pad", 1, "0", "<", format)
            told = least_widths(DIGITS, format, 0)
            self.assertEqual(told, ((0,) * many, verdict(DIGITS, with_widths(format, (0,) * many))[1], ()))
            self.assertIs(are_least_widths(DIGITS, format, 0, told), True)
            sort, row = ("row", (DIGITS,) * many), ("row", tuple((at, PADDED) for at in range(many)))
            self.assertEqual(least_widths(sort, row, 2)[0], (0,) + (2,) * (many - 1))

    def test_too_large(self):
        huge = ("pad", 1, "0", ">", HUGE)
        for call in (lambda: least_widths(INT, huge, 2), lambda: are_least_widths(INT, huge, 2, None)):
            with self.assertRaises(TooLarge) as caught:
                call()
            self.assertEqual(caught.exception.most, 500)

    def test_too_large_is_that_of_the_formats_asked(self):
        sort, large = ("word", "abcdefghijkl", 0, None), ("pad", 8, "x", "<", ("spelled", (("a", "AB"),)))
        with self.assertRaises(TooLarge):
            machine_of(sort, large)
        told = least_widths(sort, large, 0)
        self.assertEqual(told, ((0,), verdict(sort, with_widths(large, (0,)))[1], ()))
        self.assertIs(are_least_widths(sort, large, 0, told), True)
        self.assertEqual(least_widths(sort, large, 8), told)

    def test_equal_answers(self):
        self.assertEqual(least_widths(PRICE, TIGHT, 3), least_widths(PRICE, TIGHT, 3))


class WidthJudges(unittest.TestCase):
    def test_what_else_shows_it(self):
        widths, pairs, twins = least_widths(PRICE, TIGHT, 4)
        self.assertIs(are_least_widths(PRICE, TIGHT, 4, (widths, pairs[::-1] + pairs, twins)), True)
        other = ((0,), (1, 23), (12, 3))
        self.assertIs(are_least_widths(PRICE, TIGHT, 4, (widths, pairs, (other, twins[1]))), True)
        self.assertIs(are_least_widths(PRICE, TIGHT, 8, (widths, pairs, twins)), True)
        self.assertIs(are_least_widths(PRICE, TIGHT, 2, (widths, pairs, twins)), True)
        self.assertIs(are_least_widths(PRICE, TIGHT, 1, (None, None, twins)), True)

    def test_what_does_not(self):
        widths, pairs, twins = least_widths(PRICE, TIGHT, 4)
        third = verdict(PRICE, with_widths(TIGHT, (3,)))[1]
        first, second = twins
        things = [
            (None, None, twins), (None, pairs, twins), (widths, None, twins), ((3,), third, twins), ((1,), pairs, twins[:1]),
            (widths, pairs[1:], twins), (widths, pairs[:-1], twins), (widths, pairs, twins[:1]), (widths, pairs, twins[1:]),
            (widths, pairs, ()), (widths, pairs, twins[::-1]), (widths, pairs, twins + twins[:1]), (widths, pairs, (first, first)),
            (widths, pairs, (first, (second[0], second[1], second[1]))), (widths, pairs, (first, ((2,),) + second[1:])),
            (widths, pairs, (((False,),) + first[1:], second)), (widths, pairs, (first, ((True,),) + second[1:])),
            (widths, pairs, (first, second[:2])), (widths, pairs, (first, second + (0,))), (2, pairs, twins), ((2.0,), pairs, twins),
            ((2, 2), pairs, twins), ("2", pairs, twins), (widths, pairs), (widths, pairs, twins, ()), ((4,), pairs, twins), (None,) * 3,
            (widths, pairs, ((first[0], (1, 23), (1, 24)), second)), (widths, pairs, ((first[0], 123, "123"), second)),
            (widths, {pair: True for pair in pairs}, twins), (widths, pairs, {first: 1, second: 2}), ((), pairs, twins)]
        things += list(ODD_THINGS) + list(lists_for_tuples((widths, pairs, twins)))
        for thing in things:
            with self.subTest(repr(thing)[:200]):
                self.assertIs(are_least_widths(PRICE, TIGHT, 4, thing), False)
        self.assertIs(are_least_widths(PRICE, TIGHT, 1, (widths, pairs, twins)), False)
        self.assertIs(are_least_widths(PRICE, TIGHT, 0, (None, None, twins)), False)
        self.assertIs(are_least_widths(PRICE, TIGHT, 0, (None, None, twins[:1])), True)
        self.assertIs(are_least_widths(PRICE, TIGHT, 0, (None, (), twins[:1])), False)
        for name in ((1,), (2,), (), 0, "", False, (9,)):
            self.assertIs(are_least_widths(PRICE, TIGHT, 0, (name, None, twins[:1])), False)

    def test_truth_values_for_integers(self):
        sort = ("row", (("int", 0, 1), ("int", 0, 1)))
        format = ("row", ((0, ("pad", 1, "0", ">", FIGURES)), (1, FIGURES)))
        told = least_widths(sort, format, 1)
        self.assertEqual((told[0], told[2]), ((0,), ()))
        self.assertIs(are_least_widths(sort, format, 1, ((False,),) + told[1:]), False)


class LeastBetween(unittest.TestCase):
    def test_example(self):
        self.assertEqual(least_between(LISTED, BARE, " ,", 1)[0], " ")

    def right(self, sort, format, signs, most, told, can_be_read):
        texts = ["".join(row) for many in range(most + 1) for row in product(signs, repeat=many)]
        changed = [format[:3] + (text,) + format[4:] for text in texts]
        good = [at for at, other in enumerate(changed) if can_be_read(other)]
        text, pairs, twins = told
        if good:
            self.assertEqual(text, texts[good[0]])
            self.assertEqual(verdict(sort, changed[good[0]]), ("readable", pairs))
        else:
            self.assertEqual((text, pairs), (None, None))
        ahead = texts[:good[0]] if good else texts
        self.assertEqual([row[0] for row in twins], ahead)
        for at, row in enumerate(twins):
            self.assertIs(are_twins(sort, changed[at], row[1], row[2]), True)
        self.assertIs(is_least_between(sort, format, signs, most, told), True)
        return bool(good)

    def test_shorter_ones_first_then_ascending(self):
        sort, format = ("many", ("word", ",;", 0, None), 0, None), ("many", "-", "(", "x", ")", ("plain",))
        told = least_between(sort, format, ",;", 2)
        self.assertEqual((told[0], [row[0] for row in told[2]]), (None, ["", ",", ";", ",,", ",;", ";,", ";;"]))
        told = least_between(sort, format, ",;a", 2)
        self.assertEqual((told[0], [row[0] for row in told[2]]), ("a", ["", ",", ";"]))
        self.assertEqual(least_between(sort, format, "", 2)[0], None)
        self.assertEqual(least_between(sort, format, "a", 0)[0], None)
        two = ("many", ("one", 3), 0, 3), ("many", "-", "(", "", ")", ("names", ("a", "aa", "aba")))
        told = least_between(two[0], two[1], "ab", 2)
        self.assertEqual((told[0], [row[0] for row in told[2]]), ("ab", ["", "a", "b", "aa"]))
        self.right(two[0], two[1], "ab", 2, told, lambda changed: all_unlike(two[0], changed))

    def test_formats_of_all_kinds(self):
        rng = random.Random(82)
        found = {True: 0, False: 0}
        while min(found.values()) < 15:
            within = some_sort(rng, 2, False)
            sort = ("many", within, rng.choice((0, 1)), rng.choice((1, 2, 3)))
            format = ("many", rng.choice(("", "-")), "(", "?", ")", some_format(rng, within, 4))
            if how_many_values(sort) > 200 or not is_format(sort, format):
                continue
            signs, most = rng.choice(("a", "", "0a", ",;ab", "0")), rng.choice((0, 1, 1, 2))
            with self.subTest((sort, format, signs, most)):
                try:
                    told = least_between(sort, format, signs, most)
                except TooLarge:
                    continue
                found[self.right(sort, format, signs, most, told, lambda changed: all_unlike(sort, changed))] += 1

    def test_what_shows_it_and_what_does_not(self):
        told = least_between(LISTED, BARE, " ,", 1)
        text, pairs, twins = told
        self.assertEqual((text, len(twins), twins[0][0]), (" ", 1, ""))
        judge = is_least_between
        # The one number 0 and no number at all have no signs between: their texts are unlike, for the text of () is empty.
        self.assertIs(judge(LISTED, BARE, " ,", 1, told), True)
        self.assertIs(judge(LISTED, BARE, " ,", 1, (text, pairs + pairs, twins)), True)
        self.assertIs(judge(LISTED, BARE, " ,", 1, (text, pairs, (("", (1, 2), (12,)),))), True)
        self.assertIs(judge(LISTED, BARE, "", 1, (None, None, twins)), True)
        self.assertIs(judge(LISTED, BARE, " ,", 0, (None, None, twins)), True)
        comma = verdict(LISTED, BARE[:3] + (",",) + BARE[4:])[1]
        for thing in list(ODD_THINGS) + list(lists_for_tuples(told)) + [
                (",", comma, twins), (text, pairs[1:], twins), (text, pairs, ()), (text, pairs, twins + twins), (None, None, twins),
                (text, None, twins), (None, pairs, twins), ((" ",), pairs, twins), (text, pairs, ((" ", (1, 2), (12,)),)),
                (text, pairs, (("", (1, 2), (1, 2)),)), (text, pairs, ((None, (1, 2), (12,)),)), (text, pairs, ((0, (1, 2), (12,)),)),
                (text, pairs, (("", [1, 2], (12,)),)), ("  ", pairs, twins), (text, pairs), (0, pairs, twins)]:
            with self.subTest(repr(thing)[:200]):
                self.assertIs(judge(LISTED, BARE, " ,", 1, thing), False)
        self.assertIs(judge(LISTED, BARE, ",", 1, told), False)
        self.assertIs(judge(LISTED, BARE, " ,", 0, told), False)

    def test_errors(self):
        for signs in ("ba", "aa", " !#$&", "\n", "%", None, 1, ("a",), ["a"], b"a"):
            for call in (least_between, lambda *args: is_least_between(*args, None)):
                for most in (1, 5):
                    with self.subTest((repr(signs), most)), self.assertRaises(BadThing) as caught:
                        call(LISTED, BARE, signs, most)
                    self.assertEqual(caught.exception.thing, signs)
        for most in (-1, 3, True, None, "1", (1,), 1.0):
            for call in (least_between, lambda *args: is_least_between(*args, None)):
                with self.subTest(repr(most)), self.assertRaises(BadThing) as caught:
                    call(("many", INT, 0, None), ("many", "", "", "", "", HUGE), " ,", most)
                self.assertEqual(caught.exception.thing, most)

    def test_too_large(self):
        for call in (least_between, lambda *args: is_least_between(*args, None)):
            with self.assertRaises(TooLarge) as caught:
                call(("many", INT, 0, None), ("many", "", "", "", "", HUGE), " ,", 1)
            self.assertEqual(caught.exception.most, 500)

    def test_closed_tuples_are_asked_of_the_right_machine(self):
        told = least_between(LISTED, BARE, " ,", 1)
        self.assertTrue(is_closed(machine_of(LISTED, BARE[:3] + (" ",) + BARE[4:]), told[1]))
        self.assertTrue(are_twins(LISTED, BARE, told[2][0][1], told[2][0][2]))
        self.assertRaises(TooLarge, machine_of, BOUNDED, HUGE)


if __name__ == "__main__":
    unittest.main()
