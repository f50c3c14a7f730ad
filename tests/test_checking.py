"""[29] The least check signs."""

import random
import unittest
from itertools import combinations
from unittest import mock

from readagain.checking import is_least_check, least_check
from readagain.errors import BadThing, TooLarge
from readagain.machines import machine_of
from readagain.slips import are_swapped, differ_in, keeps_swaps_out, rules_out_fewer, slips, swaps
from readagain.sorts import how_many_values
from readagain.writing import write
from tests.making import DIGITS, FIGURES, INT, TWO, WORD, all_values, some_format, some_sort
from tests.reckoning import ODD_THINGS, lists_for_tuples

HUGE = ("checked", 16, 5, FIGURES)
AB = ("word", "ab", 0, None)
PLAIN = ("plain",)
NAMES = ("names", ("ab", "ba"))
ONE = ("one", 2)


def checks_up_to(most):
    return [(modulus, factor) for modulus in range(2, most + 1) for factor in range(1, modulus)]


def checked(check, format):
    return ("checked",) + check + (format,)


def is_seen(one, other, n):
    """Whether n wrong signs, or an exchange, never make one of two texts of unlike values the other."""
    if len(one) != len(other):
        return True
    apart = [at for at in range(len(one)) if one[at] != other[at]]
    if len(apart) <= n:
        return False
    return not (len(apart) == 2 and apart[1] == apart[0] + 1 and one[apart[0]] == other[apart[1]] and one[apart[1]] == other[apart[0]])


def least_by_texts(sort, format, n, most):
    """The first check with which all is seen, None if there is none, by all values of a sort."""
    for check in checks_up_to(most):
        texts = [write(sort, checked(check, format), value) for value in all_values(sort)]
        if all(is_seen(one, other, n) for one, other in combinations(texts, 2)):
            return check
    return None


class LeastCheck(unittest.TestCase):
    def right(self, sort, format, n, most):
        """Whether what is told has the right form and is shown; the check that is told."""
        told = least_check(sort, format, n, most)
        self.assertEqual((type(told), len(told), type(told[2])), (tuple, 3, tuple))
        check, shown, faults = told
        checks = checks_up_to(most)
        ahead = checks if check is None else checks[:checks.index(check)]
        self.assertEqual([row[0] for row in faults], ahead)
        for row in faults:
            self.assertEqual((type(row), len(row)), (tuple, 3))
            format_with = checked(row[0], format)
            many = differ_in(sort, format_with, row[1], row[2])
            self.assertTrue(many is not None and many <= n or are_swapped(sort, format_with, row[1], row[2]))
            self.assertNotEqual(row[1], row[2])
            self.assertFalse(is_seen(write(sort, format_with, row[1]), write(sort, format_with, row[2]), n))
        if check is None:
            self.assertIsNone(shown)
        else:
            machine = machine_of(sort, checked(check, format))
            self.assertEqual(shown, (slips(sort, checked(check, format))[-1], swaps(sort, checked(check, format))[1]))
            self.assertIs(rules_out_fewer(machine, n + 1, shown[0]), True)
            self.assertIs(keeps_swaps_out(machine, shown[1]), True)
        self.assertIs(is_least_check(sort, format, n, most, told), True)
        return check

    def test_example(self):
        self.assertEqual(least_check(ONE, NAMES, 2, 3)[0], (3, 2))

    def test_finitely_many_values(self):
        rng = random.Random(221)
        found = {}
        tried = 0
        while tried < 120:
            sort = some_sort(rng, rng.choice((1, 2, 3)), False)
            format = some_format(rng, sort, rng.choice((3, 5)))
            if how_many_values(sort) > 40:
                continue
            n, most = rng.choice((1, 1, 2, 3)), rng.choice((2, 3, 5, 7))
            with self.subTest((sort, format, n, most)):
                try:
                    check = self.right(sort, format, n, most)
                except TooLarge:
                    continue
                self.assertEqual(check, least_by_texts(sort, format, n, most))
            tried += 1
            found[check] = found.get(check, 0) + 1
        self.assertGreater(len(found), 4)
        self.assertGreater(found[None], 10)

    def test_some_known_ones(self):
        for sort, format, n, most, check in (
                (AB, PLAIN, 1, 16, (3, 2)), (AB, PLAIN, 2, 4, None), (DIGITS, TWO, 1, 16, (11, 2)), (DIGITS, TWO, 1, 10, None),
                (("word", "ab", 1, 1), PLAIN, 1, 2, (2, 1)), (("word", "ab", 1, 1), PLAIN, 2, 16, None), (ONE, ("names", ("a", "a")), 1, 5, None),
                (ONE, ("names", ("a", "bc")), 3, 2, (2, 1)), (("one", 1), ("names", ("a",)), 3, 16, (2, 1)),
                (ONE, ("names", ("aaa", "bbb")), 3, 9, (2, 1)), (INT, ("skip",), 1, 3, None)):
            with self.subTest((sort, format, n, most)):
                self.assertEqual(self.right(sort, format, n, most), check)
                if how_many_values(sort) is not None:
                    self.assertEqual(check, least_by_texts(sort, format, n, most))

    def test_an_exchange_alone_is_a_fault(self):
        # By (2, 1) all single wrong signs are seen, but not that a and b are exchanged.
        check, _, faults = least_check(("word", "ab", 0, 4), PLAIN, 1, 3)
        self.assertEqual((check, [row[0] for row in faults]), ((3, 2), [(2, 1), (3, 1)]))
        for row in faults:
            format = checked(row[0], PLAIN)
            self.assertEqual(differ_in(WORD[:3] + (4,), format, row[1], row[2]), 2)
            self.assertIs(are_swapped(WORD[:3] + (4,), format, row[1], row[2]), True)

    def test_six_formats_within_one_another(self):
        format = ("cut", 3, ("cut", 3, ("cut", 3, ("cut", 3, ("cut", 3, ("names", ("ab", "ba")))))))
        self.assertEqual(least_check(ONE, format, 2, 3)[0], (3, 2))

    def test_equal_answers(self):
        told = least_check(ONE, NAMES, 2, 3)
        kept = (told[0], (dict(told[1][0]), told[1][1]), told[2])
        told[1][0].clear()
        self.assertEqual(least_check(ONE, NAMES, 2, 3), kept)


class Judge(unittest.TestCase):
    def test_what_else_shows_it(self):
        check, (table, nodes), faults = least_check(ONE, NAMES, 2, 3)
        self.assertEqual([row[0] for row in faults], [(2, 1), (3, 1)])
        for thing in ((check, (dict(reversed(table.items())), nodes[::-1] + nodes), faults),
                      (check, (table, nodes), tuple((named, two, one) for named, one, two in faults))):
            self.assertIs(is_least_check(ONE, NAMES, 2, 3, thing), True)
        self.assertIs(is_least_check(ONE, NAMES, 2, 16, (check, (table, nodes), faults)), True)
        self.assertIs(is_least_check(ONE, NAMES, 2, 2, (None, None, faults[:1])), True)
        # A table with other numbers that are bounds all the same, and with more pairs.
        lower = {pair: min(3, many) if many is not None else None for pair, many in table.items()}
        self.assertIs(is_least_check(ONE, NAMES, 2, 3, (check, (lower, nodes), faults)), True)
        machine = machine_of(ONE, checked(check, NAMES))
        end = machine.index(("end",))
        self.assertIs(is_least_check(ONE, NAMES, 2, 3, (check, ({**table, (end, end): 0}, nodes), faults)), True)
        self.assertIs(is_least_check(ONE, NAMES, 2, 3, (check, (table, nodes + (((end, end), ""),)), faults)), True)
        self.assertIs(is_least_check(ONE, NAMES, 2, 3, (check, (table, nodes + (((end, end), "done"),)), faults)), False)

    def test_what_does_not(self):
        told = least_check(ONE, NAMES, 2, 3)
        check, (table, nodes), faults = told
        first, second = faults
        pair = next(iter(table))
        things = [
            (None, None, faults), (None, (table, nodes), faults), (check, None, faults), ((3, 1), (table, nodes), faults[:1]),
            ((2, 1), (table, nodes), ()), (check, (nodes, table), faults), (check, (table,), faults), (check, (table, nodes, ()), faults),
            (check, [table, nodes], faults), (check, (table, list(nodes)), faults), (check, ({}, nodes), faults), (check, (table, ()), faults),
            (check, (table, nodes[1:]), faults), (check, (table, nodes), faults[:1]), (check, (table, nodes), faults[1:]),
            (check, (table, nodes), faults[::-1]), (check, (table, nodes), faults + faults[:1]), (check, (table, nodes), (first, first)),
            (check, (table, nodes), (first, second[:2])), (check, (table, nodes), (first, second + (0,))),
            (check, (table, nodes), (first, (second[0], 0, 0))), (check, (table, nodes), (first, (second[0], 0, True))),
            (check, (table, nodes), (first, (second[0], False, 1))), (check, (table, nodes), (first, (second[0], 0, 2))),
            (check, (table, nodes), (first, ((3, 2),) + second[1:])), (check, (table, nodes), (first, ((3, True),) + second[1:])),
            (check, (table, nodes), ((None,) + first[1:], second)), (check, (table, nodes), (first, (list(second[0]),) + second[1:])),
            ((3, 2, 1), (table, nodes), faults), ((3.0, 2), (table, nodes), faults), ((3, 2.0), (table, nodes), faults),
            ("32", (table, nodes), faults), (check, (table, nodes)), (check, (table, nodes), faults, ()), (None,) * 3,
            ((5, 2), (table, nodes), faults), (check, ({**table, pair: None}, nodes), faults), (check, ({**table, pair: 99}, nodes), faults),
            (check, ({**table, pair: 2}, nodes), faults), (check, ({**table, pair: "3"}, nodes), faults),
            (check, ({key: worth for key, worth in table.items() if key != pair}, nodes), faults), (check, (table, nodes), [first, second]),
            (check, (table, nodes), {first: 1, second: 2}), (check, (table, nodes), None)]
        things += list(ODD_THINGS) + list(lists_for_tuples(told))
        for thing in things:
            with self.subTest(repr(thing)[:200]):
                self.assertIs(is_least_check(ONE, NAMES, 2, 3, thing), False)
        self.assertIs(is_least_check(ONE, NAMES, 3, 3, told), False)
        self.assertIs(is_least_check(ONE, NAMES, 2, 2, told), False)
        self.assertIs(is_least_check(ONE, NAMES, 2, 3, told), True)
        # With fewer wrong signs less is a fault: only an exchange is.
        self.assertIs(is_least_check(ONE, NAMES, 1, 3, told), True)

    def test_truth_values_for_integers(self):
        told = least_check(("one", 1), ("names", ("a",)), 1, 4)
        self.assertEqual(told[0], (2, 1))
        self.assertIs(is_least_check(("one", 1), ("names", ("a",)), 1, 4, told), True)
        self.assertIs(is_least_check(("one", 1), ("names", ("a",)), 1, 4, ((2, True),) + told[1:]), False)

    def test_which_values_are_faults(self):
        sort, format = ("one", 3), ("names", ("aab", "aba", "baa"))
        told = least_check(sort, format, 1, 2)
        self.assertEqual((told[0], [row[0] for row in told[2]]), (None, [(2, 1)]))
        for one, other, answer in ((0, 1, True), (1, 2, True), (1, 0, True), (0, 2, False), (0, 0, False)):
            self.assertIs(is_least_check(sort, format, 1, 2, (None, None, (((2, 1), one, other),))), answer)
            # Of the exchanged signs of 0 and 2 others stand between, but with two wrong signs they are a fault.
            self.assertIs(is_least_check(sort, format, 2, 2, (None, None, (((2, 1), one, other),))), one != other)


class Errors(unittest.TestCase):
    def test_wrong_numbers(self):
        calls = (least_check, lambda *args: is_least_check(*args, None))
        for call in calls:
            for n in (0, 4, -1, True, None, "1", 1.0, (1,), [1]):
                for most in (2, 1, None):
                    for sort, format in ((ONE, NAMES), (INT, HUGE)):
                        with self.subTest(repr((n, most))), self.assertRaises(BadThing) as caught:
                            call(sort, format, n, most)
                        self.assertIs(caught.exception.thing, n)
            for most in (1, 17, 0, -1, True, None, "2", 2.0, (2,), [2]):
                for sort, format in ((ONE, NAMES), (INT, HUGE)):
                    with self.subTest(repr(most)), self.assertRaises(BadThing) as caught:
                        call(sort, format, 1, most)
                    self.assertIs(caught.exception.thing, most)

    def test_too_large(self):
        for call in (least_check, lambda *args: is_least_check(*args, None), lambda *args: is_least_check(*args, (None, None, ()))):
            with self.assertRaises(TooLarge) as caught:
                call(INT, HUGE, 1, 2)
            self.assertEqual(caught.exception.most, 500)

    def test_too_large_is_that_of_the_first_format_asked(self):
        asked = []

        def told(sort, format):
            asked.append(format[:3])
            return slips(sort, format)
        with mock.patch("readagain.checking.slips", told):
            self.assertEqual(least_check(ONE, NAMES, 2, 16)[0], (3, 2))
        self.assertEqual(asked, [("checked", 2, 1), ("checked", 3, 1), ("checked", 3, 2)])
        # The machine of the format has less than 500 places, and so has that with the first check; with a later one it has more.
        sort, format = ("int", 0, None), ("figures", 10, "-", 5, 0, "", "")
        self.assertLess(len(machine_of(sort, checked((2, 1), format))), 500)
        self.assertRaises(TooLarge, machine_of, sort, checked((5, 2), format))
        self.assertRaises(TooLarge, least_check, sort, format, 1, 16)
        self.assertEqual(least_check(sort, format, 1, 2)[0], None)
        faults = least_check(sort, format, 1, 2)[2]
        for thing in (None, (None, None, faults), ((2, 1), ({}, ()), ())):
            self.assertIs(is_least_check(sort, format, 1, 16, thing), False)


if __name__ == "__main__":
    unittest.main()
