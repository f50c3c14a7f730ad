"""[19] Whether texts stand alone."""

import random
import unittest

from readagain.alone import does_begin, stands_alone, standing
from readagain.errors import TooLarge
from readagain.machines import machine_of
from readagain.sorts import how_many_values
from readagain.writing import write
from tests.making import DIGITS, FIGURES, INT, LOOSE, PADDED, PRICE, TIGHT, TWO, WORD, all_values, some_pair, some_values
from tests.reckoning import (
    END, ODD_THINGS, all_come_to, behind_told, changed_tuples, first_told, is_pair_of, lists_for_tuples, truths_for_integers)
from tests.test_machines import ENDLESS, FINITE

HUGE = ("checked", 16, 5, FIGURES)
ONE = ("one", 2)
NAMES = ("names", ("ab", "ac"))


def all_pairs(machine):
    return tuple(sorted(all_come_to(first_told(machine, True), lambda pair: behind_told(machine, machine, pair))))


def alone_by_the_words(machine, thing):
    if type(thing) is not tuple or not all(is_pair_of(machine, machine, part) for part in thing):
        return False
    pairs = set(thing)
    return (first_told(machine, True) <= pairs and not any(machine[pair[0]] == END for pair in pairs)
            and all(behind_told(machine, machine, pair) <= pairs for pair in pairs))


class Standing(unittest.TestCase):
    def right(self, sort, format, values, known):
        told = standing(sort, format)
        machine = machine_of(sort, format)
        texts = sorted([write(sort, format, value) for value in values])
        begun = any(other.startswith(text) for text, other in zip(texts, texts[1:]))
        if told[0] == "alone":
            self.assertEqual(told, ("alone", all_pairs(machine)))
            self.assertFalse(begun)
            self.assertIs(stands_alone(machine, told[1]), True)
        else:
            self.assertEqual((told[0], len(told)), ("begins", 3))
            self.assertTrue(begun or not known)
            self.assertIs(does_begin(sort, format, told[1], told[2]), True)
            self.assertNotEqual(told[1], told[2])
            self.assertTrue(write(sort, format, told[2]).startswith(write(sort, format, told[1])))
            self.assertIs(stands_alone(machine, all_pairs(machine)), False)
        return told[0]

    def test_examples(self):
        self.assertEqual((standing(PRICE, TIGHT)[0], standing(WORD, ("quoted", "'", "!"))[0]), ("begins", "alone"))

    def test_of_two_names(self):
        self.assertEqual(standing(ONE, NAMES), ("alone", ((1, 2), (2, 1), (3, 4), (4, 3))))
        self.assertEqual(standing(ONE, ("names", ("a", "ab"))), ("begins", 0, 1))
        self.assertEqual(standing(ONE, ("names", ("ab", "a"))), ("begins", 1, 0))
        self.assertEqual(standing(ONE, ("names", ("", "a"))), ("begins", 0, 1))
        self.assertEqual(standing(ONE, ("names", ("a", "a")))[0], "begins")
        self.assertEqual(standing(("row", ()), ("row", ())), ("alone", ()))
        self.assertEqual(standing(("one", 1), ("skip",)), ("alone", ()))

    def test_finitely_many_values(self):
        rng = random.Random(101)
        found = {"alone": 0, "begins": 0}
        for sort, format in FINITE:
            with self.subTest((sort, format)):
                self.right(sort, format, all_values(sort), True)
        while min(found.values()) < 60:
            sort, format = some_pair(rng, False, rng.choice((1, 2, 3)))
            if how_many_values(sort) <= 400:
                with self.subTest((sort, format)):
                    try:
                        found[self.right(sort, format, all_values(sort), True)] += 1
                    except TooLarge:
                        pass

    def test_endless_many_values(self):
        rng = random.Random(102)
        for sort, format in ENDLESS + [some_pair(rng, True, 3) for _ in range(60)]:
            with self.subTest((sort, format)):
                try:
                    self.right(sort, format, some_values(rng, sort, 200), False)
                except TooLarge:
                    pass

    def test_some_known_ones(self):
        words = ("word", "ab", 0, None)
        for sort, format, told in (
                (INT, FIGURES, "begins"), (INT, ("skip",), "begins"), (DIGITS, TWO, "alone"), (DIGITS, PADDED, "alone"),
                (PRICE, LOOSE, "begins"), (words, ("quoted", "'", "a"), "alone"), (words, ("plain",), "begins"),
                (("word", "ab", 3, 3), ("plain",), "alone"), (("word", "ab", 3, 3), ("cut", 2, ("plain",)), "begins"),
                (("row", (INT,)), ("row", ((0, FIGURES), ";")), "alone"), (("maybe", DIGITS), ("maybe", "x", TWO), "alone"),
                (("many", DIGITS, 0, None), ("many", "", "", "", "", TWO), "begins"),
                (("many", DIGITS, 0, None), ("many", "()", "(", "", ")", TWO), "alone"),
                (("many", DIGITS, 0, None), ("many", "(", "(", "", ")", TWO), "begins")):
            with self.subTest((sort, format)):
                self.assertEqual(standing(sort, format)[0], told)

    def test_equal_answers(self):
        self.assertEqual(standing(DIGITS, TWO), standing(DIGITS, TWO))

    def test_too_large(self):
        with self.assertRaises(TooLarge) as caught:
            standing(INT, HUGE)
        self.assertEqual(caught.exception.most, 500)


class Judges(unittest.TestCase):
    def test_what_stands_alone(self):
        rng = random.Random(103)
        answers = {True: 0, False: 0}
        for sort, format in ((ONE, NAMES), (ONE, ("names", ("a", "ab"))), (WORD, ("quoted", "'", "!")), (WORD, ("plain",)),
                             (("one", 3), ("names", ("ab", "ac", "b"))), (("int", 0, 11), TWO)):
            machine = machine_of(sort, format)

            def some_key(source):
                return (source.randrange(len(machine)), source.randrange(len(machine)))
            for thing in changed_tuples(rng, all_pairs(machine), some_key, 80):
                answer = stands_alone(machine, thing)
                self.assertIs(answer, alone_by_the_words(machine, thing), thing)
                answers[answer] += 1
        self.assertGreater(min(answers.values()), 30)

    def test_things_that_show_nothing(self):
        machine = machine_of(ONE, NAMES)
        told = standing(ONE, NAMES)[1]
        self.assertIs(stands_alone(machine, told), True)
        self.assertIs(stands_alone(machine, told[::-1] + told), True)
        self.assertIs(stands_alone(machine, told + ((3, 5), (3, 3))), False)
        self.assertIs(stands_alone(machine, told + ((3, 5),)), True)
        self.assertIs(stands_alone(machine, told + ((5, 3),)), False)
        self.assertIs(stands_alone(machine, told + ((5, 5),)), False)
        self.assertIs(stands_alone(machine, truths_for_integers(told)), False)
        for at in range(len(told)):
            self.assertIs(stands_alone(machine, told[:at] + told[at + 1:]), False)
        for thing in list(ODD_THINGS) + list(lists_for_tuples(told)) + [
                told + ((6, 1),), told + ((1, -1),), told + ((1, 2, 3),), told + (None,), set(told), dict.fromkeys(told)]:
            with self.subTest(repr(thing)):
                self.assertIs(stands_alone(machine, thing), False)
        self.assertIs(stands_alone(machine_of(("one", 1), ("names", ("a",))), ()), True)

    def test_values_that_begin_others(self):
        self.assertIs(does_begin(INT, FIGURES, 1, 12), True)
        self.assertIs(does_begin(INT, FIGURES, 12, 1), False)
        self.assertIs(does_begin(INT, FIGURES, 12, 12), False)
        self.assertIs(does_begin(INT, FIGURES, -1, -10), True)
        self.assertIs(does_begin(INT, HUGE, 2, 12), False)
        self.assertIs(does_begin(ONE, ("skip",), 0, 1), True)
        self.assertIs(does_begin(ONE, ("skip",), 1, 0), True)
        for one, other in ((True, 0), (0, True), (0, 2), (2, 0), (None, 0), (0, None), ("", 1), (0, 1.0), ([], {}), (0, 0)):
            with self.subTest((one, other)):
                self.assertIs(does_begin(ONE, ("skip",), one, other), False)


if __name__ == "__main__":
    unittest.main()
