"""[31] Reports."""

import random
import unittest
from unittest import mock

from readagain.alone import standing
from readagain.counting import lengths
from readagain.emptiness import can_be_empty
from readagain.errors import BadFormat, TooLarge
from readagain.machines import machine_of
from readagain.reports import best_of, differences, report
from readagain.resync import resync
from readagain.slips import slips, swaps
from readagain.sorts import how_many_values
from readagain.streams import lookahead
from readagain.verdicts import verdict
from readagain.writing import write
from tests.making import (
    DIGITS, FIGURES, INT, LOOSE, PADDED, PRICE, TIGHT, TWO, WORD, all_values, some_cut_many, some_format, some_pair, some_sort)
from tests.test_machines import ENDLESS
from tests.test_resync import WORDS

HUGE = ("checked", 16, 5, FIGURES)
ONE = ("one", 2)
WORDS_OF = ("places", "values", "lengths", "readable", "alone", "late", "end", "slips", "swaps")
# All lots that an eleventh sign from the end makes: too many for a reader from anywhere.
MANY_LOTS = ("row", (WORDS, ("word", "ab", 8, 8), ("word", "ab", 3, 3))), ("row", ((0, ("plain",)), "a", (1, ("plain",)), (2, ("plain",)), "c"))


def settled_or_lost(sort, format):
    try:
        told = resync(sort, format)
    except TooLarge:
        return -2
    return told[1] if told[0] == "settled" else None


def report_told(sort, format):
    """What each function tells, one by one."""
    empty = can_be_empty(sort, format)
    late = ("known", -1) if empty else lookahead(sort, format)
    slipped = slips(sort, format)
    return {
        "places": len(machine_of(sort, format)), "values": how_many_values(sort), "readable": verdict(sort, format)[0] == "readable",
        "alone": standing(sort, format)[0] == "alone", "late": late[1] if late[0] == "known" else None,
        "end": -1 if empty else settled_or_lost(sort, format), "slips": slipped[1] if slipped[0] == "slips" else None,
        "swaps": swaps(sort, format)[0] == "safe"}


class Reports(unittest.TestCase):
    def right(self, sort, format):
        told = report(sort, format)
        self.assertEqual((type(told), tuple(word for word, _ in told)), (tuple, WORDS_OF))
        told = dict(told)
        for word, what in report_told(sort, format).items():
            self.assertEqual((word, told[word]), (word, what))
            self.assertIs(type(told[word]), type(what))
        if told["readable"]:
            self.assertEqual(told["lengths"], lengths(sort, format))
        if told["values"] is not None and told["values"] <= 2000:
            sizes = [len(write(sort, format, value)) for value in all_values(sort)]
            self.assertEqual(told["lengths"], (min(sizes), max(sizes)))
        return told

    def test_examples(self):
        self.assertEqual(report(ONE, ("names", ("ab", "ba")))[2:],
                         (("lengths", (2, 2)), ("readable", True), ("alone", True), ("late", 0), ("end", None), ("slips", 2), ("swaps", False)))
        self.assertEqual(
            (differences(ONE, ("names", ("ab", "ba")), ("names", ("ab", "bc"))), best_of(ONE, (("names", ("a", "a")), ("names", ("a", "ab")), ("names", ("a", "b"))))),
            ((("end", None, 3), ("swaps", False, True)), 2))

    def test_whole_reports(self):
        self.assertEqual(report(ONE, ("names", ("ab", "ba"))),
                         (("places", 6), ("values", 2), ("lengths", (2, 2)), ("readable", True), ("alone", True), ("late", 0), ("end", None), ("slips", 2), ("swaps", False)))
        self.assertEqual(report(("row", ()), ("row", ())),
                         (("places", 1), ("values", 1), ("lengths", (0, 0)), ("readable", True), ("alone", True), ("late", -1), ("end", -1), ("slips", None), ("swaps", True)))
        self.assertEqual(report(INT, FIGURES)[1:],
                         (("values", None), ("lengths", (1, None)), ("readable", True), ("alone", False), ("late", None), ("end", None), ("slips", 1), ("swaps", False)))
        self.assertEqual(report(PRICE, LOOSE)[2:],
                         (("lengths", (2, None)), ("readable", False), ("alone", False), ("late", None), ("end", None), ("slips", 0), ("swaps", False)))
        self.assertEqual(report(INT, ("skip",))[2:],
                         (("lengths", (0, 0)), ("readable", False), ("alone", False), ("late", -1), ("end", -1), ("slips", 0), ("swaps", True)))

    def test_drawn_ones(self):
        rng = random.Random(291)
        found = {"late": set(), "end": set(), "slips": set()}
        drawn = [some_pair(rng, rng.random() < 0.5, rng.choice((1, 2, 3))) for _ in range(130)] + [some_cut_many(rng) for _ in range(20)]
        for sort, format in ENDLESS + drawn:
            with self.subTest((sort, format)):
                try:
                    if len(machine_of(sort, format)) > 150:
                        continue
                except TooLarge:
                    self.assertRaises(TooLarge, report, sort, format)
                    continue
                told = self.right(sort, format)
                for word, what in found.items():
                    what.add(told[word])
        for word, what in found.items():
            self.assertGreater(len(what), 3, word)

    def test_too_many_lots(self):
        self.assertRaises(TooLarge, resync, *MANY_LOTS)
        told = self.right(*MANY_LOTS)
        self.assertEqual((told["end"], told["lengths"]), (-2, (13, None)))

    def test_equal_answers(self):
        told = report(PRICE, TIGHT)
        report(PRICE, LOOSE)
        self.assertEqual(report(PRICE, TIGHT), told)


class Differences(unittest.TestCase):
    def test_all_that_differ(self):
        rng = random.Random(292)
        many = 0
        while many < 60:
            sort = some_sort(rng, rng.choice((1, 2)), True)
            one, other = some_format(rng, sort, 6), some_format(rng, sort, 6)
            try:
                if max(len(machine_of(sort, one)), len(machine_of(sort, other))) > 100:
                    continue
            except TooLarge:
                continue
            told, other_told = report(sort, one), report(sort, other)
            self.assertEqual(differences(sort, one, other),
                             tuple((word, what, dict(other_told)[word]) for word, what in told if what != dict(other_told)[word]))
            self.assertEqual(differences(sort, one, one), ())
            many += 1

    def test_some_known_ones(self):
        self.assertEqual(differences(DIGITS, TWO, PADDED)[1:], ())
        self.assertEqual(differences(PRICE, LOOSE, TIGHT)[1:], (("lengths", (2, None), (3, None)), ("readable", False, True), ("slips", 0, 1)))
        # That a text is empty, and that it is lost, are told by unlike things.
        self.assertEqual(differences(ONE, ("names", ("", "a")), ("names", ("a", "ab")))[-2:], (("late", -1, 1), ("end", -1, None)))


class Best(unittest.TestCase):
    def own_best(self, sort, formats):
        """The best one, by putting each format ahead of what it is better than."""
        best = 0
        told = [dict(report(sort, format)) for format in formats]
        for number in range(1, len(formats)):
            if self.is_better(told[number], told[best]):
                best = number
        return best

    def is_better(self, one, other):
        if one["readable"] != other["readable"]:
            return one["readable"]
        if one["alone"] != other["alone"]:
            return one["alone"]
        if one["late"] != other["late"]:
            return other["late"] is None or one["late"] is not None and one["late"] < other["late"]
        if one["slips"] != other["slips"]:
            return one["slips"] is None or other["slips"] is not None and one["slips"] > other["slips"]
        return one["lengths"][0] < other["lengths"][0]

    def test_by_each_word(self):
        for sort, formats, number in (
                (DIGITS, (TWO,), 0), (DIGITS, (TWO, TWO), 0), (DIGITS, (FIGURES, TWO), 1), (DIGITS, (TWO, ("checked", 11, 3, TWO)), 1), (DIGITS, (TWO, PADDED), 0),
                (DIGITS, (("pad", 3, "0", ">", TWO), TWO), 1), (ONE, (("names", ("a", "ab")), ("names", ("", "a"))), 1), (ONE, (("names", ("ab", "cd")), ("names", ("ab", "abc"))), 0),
                (ONE, (("names", ("ab", "cd")), ("names", ("ab", "cde"))), 1), (ONE, (("names", ("ab", "cd")), ("names", ("a", "b"))), 0), (ONE, (("names", ("ab", "ac")), ("names", ("a", "b"))), 1),
                (ONE, (("names", ("a", "aa")), ("names", ("a", "ab")), ("names", ("a", "aab"))), 1), (ONE, (("names", ("a", "a")), ("names", ("", ""))), 1),
                (ONE, (("names", ("a", "a")), ("names", ("a", "aa"))), 1), (ONE, (("names", ("a", "aab")), ("names", ("a", "ab"))), 1),
                (("one", 3), (("names", ("a", "ab", "abb")), ("names", ("", "a", "b"))), 1), (("one", 3), (("names", ("", "a", "b")), ("names", ("a", "ab", "abb"))), 0)):
            with self.subTest(formats):
                self.assertEqual(best_of(sort, formats), number)
                self.assertEqual(self.own_best(sort, formats), number)

    def test_drawn_ones(self):
        rng = random.Random(293)
        found = {}
        while sum(found.values()) < 80:
            sort = some_sort(rng, rng.choice((1, 2)), True)
            formats = tuple(some_format(rng, sort, rng.choice((4, 6))) for _ in range(rng.choice((1, 2, 3, 4))))
            try:
                if max(len(machine_of(sort, format)) for format in formats) > 60:
                    continue
            except TooLarge:
                continue
            told = best_of(sort, formats)
            self.assertEqual(told, self.own_best(sort, formats), (sort, formats))
            found[told] = found.get(told, 0) + 1
        self.assertEqual(set(found), {0, 1, 2, 3})


class Errors(unittest.TestCase):
    def test_too_large(self):
        for call in (lambda: report(INT, HUGE), lambda: differences(INT, FIGURES, HUGE), lambda: differences(INT, HUGE, FIGURES), lambda: best_of(INT, (FIGURES, HUGE)),
                     lambda: best_of(INT, (HUGE,)), lambda: report(("maybe", INT), ("maybe", "", HUGE))):
            with self.assertRaises(TooLarge) as caught:
                call()
            self.assertEqual(caught.exception.most, 500)

    def test_the_first_one_is_asked_first(self):
        asked = []

        def told(sort, format):
            asked.append(format)
            return machine_of(sort, format)
        with mock.patch("readagain.reports.machine_of", told):
            self.assertRaises(TooLarge, differences, INT, HUGE, FIGURES)
            self.assertRaises(TooLarge, best_of, INT, (HUGE, FIGURES))
        self.assertEqual(asked, [HUGE, HUGE])

    def test_formats_that_others_refuse(self):
        # lengths [18] and lookahead [20] are not told of each format, but a report is.
        self.assertRaises(BadFormat, lengths, PRICE, LOOSE)
        self.assertRaises(BadFormat, lookahead, WORD, ("plain",))
        self.assertEqual(dict(report(PRICE, LOOSE))["lengths"], (2, None))
        self.assertEqual(dict(report(WORD, ("plain",)))["late"], -1)


if __name__ == "__main__":
    unittest.main()
