"""[15] Whether some text is written by two formats."""

import random
import unittest

from readagain.errors import TooLarge
from readagain.machines import machine_of
from readagain.meeting import do_meet, keeps_apart, meeting
from readagain.sorts import how_many_values
from readagain.writing import write
from tests.making import DIGITS, FIGURES, INT, LOOSE, PADDED, PRICE, TIGHT, TWO, WORD, all_values, some_pair, some_values
from tests.reckoning import (
    ODD_THINGS, all_come_to, are_ends, behind_told, changed_tuples, is_pair_of, lists_for_tuples, truths_for_integers)

HUGE = ("checked", 16, 5, FIGURES)


def apart_by_the_words(machine, other, thing):
    if type(thing) is not tuple or not all(is_pair_of(machine, other, part) for part in thing):
        return False
    return ((0, 0) in thing and not any(are_ends(machine, other, pair) for pair in thing)
            and all(behind_told(machine, other, pair) <= set(thing) for pair in thing))


class Meeting(unittest.TestCase):
    def right(self, sort, format, other_sort, other, shortest, known):
        """Whether what is told is right, if the shortest common text is known, or only that of some values."""
        told = meeting(sort, format, other_sort, other)
        machine, other_machine = machine_of(sort, format), machine_of(other_sort, other)
        pairs = all_come_to([(0, 0)], lambda pair: behind_told(machine, other_machine, pair))
        if told[0] == "apart":
            self.assertEqual(told, ("apart", tuple(sorted(pairs))))
            self.assertIsNone(shortest)
            self.assertIs(keeps_apart(machine, other_machine, told[1]), True)
        else:
            self.assertEqual((told[0], len(told)), ("met", 3))
            self.assertIs(do_meet(sort, format, told[1], other_sort, other, told[2]), True)
            text = write(sort, format, told[1])
            self.assertEqual(text, write(other_sort, other, told[2]))
            if known:
                self.assertEqual(len(text), shortest)
            elif shortest is not None:
                self.assertLessEqual(len(text), shortest)
            self.assertIs(keeps_apart(machine, other_machine, tuple(sorted(pairs))), False)
        return told[0]

    def shortest(self, sort, format, values, other_sort, other, other_values):
        texts = {write(sort, format, value) for value in values}
        common = texts & {write(other_sort, other, value) for value in other_values}
        return min([len(text) for text in common], default=None)

    def test_examples(self):
        self.assertEqual(
            (meeting(("int", 0, 9), FIGURES, WORD, ("plain",))[0],
             meeting(("int", 10, 10), ("figures", 16, "-", 1, 0, "", ""), WORD, ("plain",))), ("apart", ("met", 10, "a")))

    def test_of_one_name(self):
        sort = ("one", 1)
        self.assertEqual(meeting(sort, ("names", ("ab",)), sort, ("names", ("ac",))), ("apart", ((0, 0), (1, 0), (1, 1), (2, 2))))
        self.assertEqual(meeting(sort, ("names", ("ab",)), ("row", ()), ("row", ("ab",))), ("met", 0, ()))
        self.assertEqual(meeting(sort, ("names", ("ab",)), ("row", ()), ("row", ("a",))), ("apart", ((0, 0), (1, 0), (2, 1))))
        self.assertEqual(meeting(("row", ()), ("row", ()), ("row", ()), ("skip",)), ("met", (), ()))

    def test_finitely_many_values(self):
        rng = random.Random(71)
        found = {"apart": 0, "met": 0}
        while min(found.values()) < 50:
            sort, format = some_pair(rng, False, rng.choice((1, 2, 3)))
            other_sort, other = some_pair(rng, False, rng.choice((1, 2, 3)))
            if max(how_many_values(sort), how_many_values(other_sort)) > 300:
                continue
            shortest = self.shortest(sort, format, all_values(sort), other_sort, other, all_values(other_sort))
            with self.subTest((sort, format, other_sort, other)):
                try:
                    found[self.right(sort, format, other_sort, other, shortest, True)] += 1
                except TooLarge:
                    pass

    def test_endless_many_values(self):
        rng = random.Random(72)
        for _ in range(60):
            sort, format = some_pair(rng, True, rng.choice((1, 2, 3)))
            other_sort, other = some_pair(rng, True, rng.choice((1, 2, 3)))
            shortest = self.shortest(sort, format, some_values(rng, sort, 200), other_sort, other, some_values(rng, other_sort, 200))
            with self.subTest((sort, format, other_sort, other)):
                try:
                    self.right(sort, format, other_sort, other, shortest, False)
                except TooLarge:
                    pass

    def test_some_known_ones(self):
        for sort, format, other_sort, other, shortest in (
                (INT, FIGURES, INT, ("figures", 10, "+", 1, 0, "", ""), 2), (PRICE, LOOSE, PRICE, TIGHT, 3),
                (("int", 100, None), FIGURES, ("int", 0, None), ("figures", 2, "-", 1, 0, "", ""), 3),
                (("int", 0, None), ("figures", 10, "-", 1, 3, ",", ""), ("int", 0, None), ("figures", 10, "-", 9, 3, ",", ""), 11),
                (("int", 0, 9999), ("figures", 10, "-", 1, 3, ",", ""), ("int", 0, None), ("figures", 10, "-", 9, 3, ",", ""), None),
                (("int", 2, 9), FIGURES, ("word", "01", 0, None), ("plain",), None),
                (("word", "ab", 3, None), ("plain",), ("word", "bc", 0, None), ("plain",), 3),
                (("word", "ab", 3, None), ("plain",), ("word", "bc", 0, 2), ("plain",), None),
                (("one", 1), ("skip",), ("word", "a", 0, None), ("plain",), 0),
                (("one", 1), ("skip",), ("word", "a", 1, None), ("plain",), None)):
            with self.subTest((sort, format, other_sort, other)):
                self.right(sort, format, other_sort, other, shortest, True)
                self.right(other_sort, other, sort, format, shortest, True)

    def test_equal_answers(self):
        self.assertEqual(meeting(PRICE, LOOSE, PRICE, TIGHT), meeting(PRICE, LOOSE, PRICE, TIGHT))

    def test_too_large(self):
        for args in ((INT, HUGE, WORD, ("plain",)), (WORD, ("plain",), INT, HUGE), (INT, HUGE, INT, HUGE)):
            with self.assertRaises(TooLarge) as caught:
                meeting(*args)
            self.assertEqual(caught.exception.most, 500)


class Judges(unittest.TestCase):
    def test_what_keeps_apart(self):
        rng = random.Random(73)
        answers = {True: 0, False: 0}
        for sort, format, other_sort, other in (
                (("one", 2), ("names", ("ab", "b")), ("one", 2), ("names", ("ac", "bb"))),
                (("one", 2), ("names", ("ab", "b")), ("one", 2), ("names", ("ac", "b"))),
                (WORD, ("plain",), ("int", 0, 9), FIGURES), (("one", 1), ("names", ("ab",)), ("one", 1), ("names", ("ac",)))):
            machine, other_machine = machine_of(sort, format), machine_of(other_sort, other)
            pairs = sorted(all_come_to([(0, 0)], lambda pair: behind_told(machine, other_machine, pair)))
            pairs = [pair for pair in pairs if not are_ends(machine, other_machine, pair)] if rng.random() < 0.5 else pairs

            def some_key(source):
                return (source.randrange(len(machine)), source.randrange(len(other_machine)))
            for thing in changed_tuples(rng, pairs, some_key, 100):
                answer = keeps_apart(machine, other_machine, thing)
                self.assertIs(answer, apart_by_the_words(machine, other_machine, thing), thing)
                answers[answer] += 1
        self.assertGreater(min(answers.values()), 40)

    def test_things_that_show_nothing(self):
        machine, other = machine_of(("one", 1), ("names", ("ab",))), machine_of(("one", 1), ("names", ("ac",)))
        told = ((0, 0), (1, 0), (1, 1), (2, 2))
        self.assertIs(keeps_apart(machine, other, told), True)
        self.assertIs(keeps_apart(machine, other, told[::-1] + told), True)
        self.assertIs(keeps_apart(machine, other, told + ((3, 2),)), True)
        for at in range(4):
            self.assertIs(keeps_apart(machine, other, told[:at] + told[at + 1:]), False)
        self.assertIs(keeps_apart(machine, other, truths_for_integers(told)), False)
        for thing in list(ODD_THINGS) + list(lists_for_tuples(told)) + [
                told + ((3, 3),), told + ((4, 0),), told + ((0, 4),), told + ((-1, 0),), told + ((0, 0, 0),), told + (None,),
                dict.fromkeys(told), set(told), told + ((0.0, 1),)]:
            with self.subTest(repr(thing)):
                self.assertIs(keeps_apart(machine, other, thing), False)

    def test_places_of_machines_of_unlike_sizes(self):
        small, great = machine_of(("row", ()), ("row", ("a",))), machine_of(("row", ()), ("row", ("bcd",)))
        self.assertIs(keeps_apart(small, great, ((0, 0),)), True)
        self.assertIs(keeps_apart(small, great, ((0, 0), (0, 3))), True)
        self.assertIs(keeps_apart(small, great, ((0, 0), (3, 0))), False)
        self.assertIs(keeps_apart(great, small, ((0, 0), (3, 0))), True)
        self.assertIs(keeps_apart(great, small, ((0, 0), (0, 3))), False)

    def test_values_that_meet(self):
        self.assertIs(do_meet(PRICE, LOOSE, (12, 34), INT, FIGURES, 1234), True)
        self.assertIs(do_meet(PRICE, LOOSE, (12, 34), INT, FIGURES, 1235), False)
        self.assertIs(do_meet(("int", 0, 1), FIGURES, 1, ("int", 0, 1), FIGURES, 1), True)
        for value, other_value in ((True, 1), (1, True), (1, 0), (2, 1), (1, 2), (None, 1), (1, None), ("1", 1), ([], {}), (1.0, 1)):
            with self.subTest((value, other_value)):
                self.assertIs(do_meet(("int", 0, 1), FIGURES, value, ("int", 0, 1), FIGURES, other_value), False)
        self.assertIs(do_meet(INT, HUGE, 7, DIGITS, ("checked", 16, 5, FIGURES), 7), True)
        self.assertIs(do_meet(DIGITS, PADDED, 7, DIGITS, TWO, 7), True)


if __name__ == "__main__":
    unittest.main()
