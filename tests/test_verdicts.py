"""[1] [10] Verdicts, and what shows them."""

import random
import unittest

from readagain.errors import TooLarge
from readagain.machines import machine_of
from readagain.sorts import how_many_values, is_value
from readagain.verdicts import are_twins, first_pairs, is_closed, pairs_behind, verdict
from readagain.writing import write
from tests.making import DIGITS, FIGURES, INT, LOOSE, PADDED, PRICE, TIGHT, TWO, WORD, all_values, some_pair, some_values
from tests.test_machines import ENDLESS, FINITE

ONE = ("one", 2)
NAMES = ("names", ("no", "n"))


def pairs_told_first(machine):
    """First pairs, word for word."""
    found = set()
    for row in machine:
        if row[0] == "marks":
            for mark, place in row[1]:
                for other_mark, other_place in row[1]:
                    if mark < other_mark:
                        found.add((place, other_place))
    return tuple(sorted(found))


def pairs_told_behind(machine, pair):
    """What follows a pair, word for word."""
    one, other = machine[pair[0]], machine[pair[1]]
    if one[0] == "marks":
        return tuple(sorted({(place, pair[1]) for _, place in one[1]}))
    if other[0] == "marks":
        return tuple(sorted({(pair[0], place) for _, place in other[1]}))
    if one[0] == other[0] == "sign" and one[1] == other[1]:
        return ((one[2], other[2]),)
    return ()


def all_pairs(machine):
    found = set(pairs_told_first(machine))
    waiting = list(found)
    while waiting:
        for pair in pairs_told_behind(machine, waiting.pop()):
            if pair not in found:
                found.add(pair)
                waiting.append(pair)
    return found


def shortest_common_text(sort, format, values):
    """The least length of a text that two of the values have, None if there is none."""
    texts = {}
    for value in values:
        texts.setdefault(write(sort, format, value), []).append(value)
    return min([len(text) for text, row in texts.items() if len(row) > 1], default=None)


class Pairs(unittest.TestCase):
    def test_examples(self):
        answers = machine_of(ONE, NAMES)
        self.assertEqual(
            (first_pairs(answers), pairs_behind(answers, (1, 2)), verdict(ONE, NAMES)),
            (((1, 2),), ((3, 4),), ("readable", ((1, 2), (3, 4)))))
        self.assertEqual((verdict(ONE, ("names", ("no", "no"))), is_closed(answers, ((1, 2),))),
                         (("twins", 0, 1), False))
        self.assertEqual((verdict(PRICE, LOOSE)[0], verdict(PRICE, TIGHT)[0]), ("twins", "readable"))

    def test_the_lesser_mark_comes_first_not_the_lesser_place(self):
        machine = (("marks", (("aa", 2), ("ab", 1), ("ac", 1))), ("sign", "x", 2), ("end",))
        self.assertEqual(first_pairs(machine), ((1, 1), (2, 1)))

    def test_like_places_behind_unlike_marks(self):
        machine = machine_of(ONE, ("names", ("no", "no")))
        self.assertEqual(first_pairs(machine), ((1, 1),))

    def test_what_follows(self):
        machine = (("marks", (("aa", 1), ("ab", 1), ("ac", 2))), ("sign", "x", 3), ("sign", "y", 3), ("end",))
        self.assertEqual(pairs_behind(machine, (0, 0)), ((1, 0), (2, 0)))
        self.assertEqual(pairs_behind(machine, (0, 3)), ((1, 3), (2, 3)))
        self.assertEqual(pairs_behind(machine, (3, 0)), ((3, 1), (3, 2)))
        self.assertEqual(pairs_behind(machine, (1, 0)), ((1, 1), (1, 2)))
        self.assertEqual(pairs_behind(machine, (1, 1)), ((3, 3),))
        for pair in ((1, 2), (2, 1), (1, 3), (3, 1), (3, 3)):
            self.assertEqual(pairs_behind(machine, pair), ())

    def test_of_all_kinds(self):
        rng = random.Random(21)
        for sort, format in ENDLESS[:12] + FINITE:
            machine = machine_of(sort, format)
            with self.subTest((sort, format)):
                self.assertEqual(first_pairs(machine), pairs_told_first(machine))
                for _ in range(200):
                    pair = (rng.randrange(len(machine)), rng.randrange(len(machine)))
                    self.assertEqual(pairs_behind(machine, pair), pairs_told_behind(machine, pair))


class Verdicts(unittest.TestCase):
    def right(self, sort, format, shortest, known):
        """Whether a verdict is right, if the shortest common text is known, or only that of some values."""
        machine = machine_of(sort, format)
        told = verdict(sort, format)
        self.assertIsInstance(told, tuple)
        if told[0] == "readable":
            self.assertEqual(len(told), 2)
            self.assertIsNone(shortest)
            self.assertEqual(told[1], tuple(sorted(all_pairs(machine))))
            self.assertTrue(is_closed(machine, told[1]))
        else:
            self.assertEqual((told[0], len(told)), ("twins", 3))
            _, one, other = told
            self.assertTrue(are_twins(sort, format, one, other))
            self.assertTrue(is_value(sort, one) and is_value(sort, other) and one != other)
            text = write(sort, format, one)
            self.assertEqual(text, write(sort, format, other))
            if known:
                self.assertEqual(len(text), shortest)
            elif shortest is not None:
                self.assertLessEqual(len(text), shortest)
            self.assertFalse(is_closed(machine, tuple(sorted(all_pairs(machine)))))

    def test_finitely_many_values(self):
        for sort, format in FINITE:
            with self.subTest((sort, format)):
                self.right(sort, format, shortest_common_text(sort, format, all_values(sort)), True)

    def test_some_of_all_kinds(self):
        rng = random.Random(22)
        tried = 0
        while tried < 200:
            sort, format = some_pair(rng, False, rng.choice((2, 3, 4)))
            if how_many_values(sort) <= 400:
                tried += 1
                with self.subTest((sort, format)):
                    try:
                        self.right(sort, format, shortest_common_text(sort, format, all_values(sort)), True)
                    except TooLarge:
                        pass

    def test_endless_many_values(self):
        rng = random.Random(23)
        pairs = ENDLESS + [some_pair(rng, True, 3) for _ in range(100)]
        for sort, format in pairs:
            with self.subTest((sort, format)):
                try:
                    values = some_values(rng, sort, 300)
                    self.right(sort, format, shortest_common_text(sort, format, values), False)
                except TooLarge:
                    pass

    def test_a_listing_of_all_values_with_short_texts(self):
        words = ["".join(row) for row in all_rows("ab", 7)]
        numbers = list(range(-1100, 1100))
        price = [(units, cents) for units in range(1100) for cents in range(100)]
        word, endless = ("word", "ab", 0, None), ("many", ("word", "ab", 0, None), 0, None)
        rows = all_rows(words[:15], 3)
        for sort, format, values in (
                (word, ("spelled", (("a", "x"), ("b", "xx"))), words), (word, ("spelled", (("a", "xy"), ("b", "yx"))), words),
                (word, ("spelled", (("a", "abb"), ("b", "b"))), words), (word, ("plain",), words),
                (word, ("cut", 3, ("plain",)), words), (word, ("pad", 2, "b", "<", ("plain",)), words),
                (word, ("pad", 2, ".", "^", ("plain",)), words), (word, ("quoted", "a", "b"), words),
                (INT, FIGURES, numbers), (INT, ("pad", 3, "0", ">", FIGURES), numbers), (INT, ("cut", 2, FIGURES), numbers),
                (INT, ("pad", 3, "0", "<", FIGURES), numbers), (INT, ("pad", 3, "-", "^", FIGURES), numbers),
                (PRICE, LOOSE, price), (PRICE, TIGHT, price), (PRICE, ("row", ((0, FIGURES), ".", (1, FIGURES))), price),
                (PRICE, ("row", ((0, ("pad", 2, "0", ">", FIGURES)), (1, TWO))), price),
                (endless, ("many", "", "", ";", "", ("plain",)), rows),
                (endless, ("many", "-", "", ";", "", ("plain",)), rows),
                (endless, ("many", "", "a", "b", "", ("plain",)), rows),
                (endless, ("many", "", "", "", "", ("quoted", "'", "a")), rows)):
            with self.subTest((sort, format)):
                self.right(sort, format, shortest_common_text(sort, format, values), True)

    def test_some_known_verdicts(self):
        for sort, format, word in (
                (DIGITS, PADDED, "readable"), (INT, PADDED, "readable"), (("int", -9, 9), ("pad", 3, "0", ">", FIGURES), "readable"),
                (("int", 0, 99), ("pad", 3, "0", "<", FIGURES), "twins"), (DIGITS, ("cut", 1, FIGURES), "twins"),
                (("one", 1), ("skip",), "readable"), (ONE, ("skip",), "twins"), (("row", ()), ("row", ()), "readable"),
                (("maybe", WORD), ("maybe", "", ("plain",)), "twins"), (("maybe", WORD), ("maybe", "c", ("plain",)), "readable"),
                (("word", "ab", 0, None), ("quoted", "a", "b"), "readable"),
                (("int", 0, 99), ("cut", 2, ("checked", 11, 3, FIGURES)), "twins"),
                (("int", 0, 99), ("cut", 1, ("checked", 11, 3, TWO)), "twins")):
            with self.subTest((sort, format)):
                self.assertEqual(verdict(sort, format)[0], word)


def all_rows(things, most):
    """All rows of at most so many of the things."""
    rows = [()]
    level = [()]
    for _ in range(most):
        level = [row + (thing,) for row in level for thing in things]
        rows.extend(level)
    return rows


class Judges(unittest.TestCase):
    def closed_by_the_words(self, machine, pairs):
        ends = [pair for pair in pairs if machine[pair[0]] == machine[pair[1]] == ("end",)]
        first = all(pair in pairs for pair in pairs_told_first(machine))
        return first and not ends and all(behind in pairs for pair in pairs for behind in pairs_told_behind(machine, pair))

    def test_closed_tuples(self):
        rng = random.Random(24)
        for sort, format in [(PRICE, TIGHT), (ONE, NAMES), (WORD, ("plain",)), (WORD, ("quoted", "'", "a")),
                             (ONE, ("names", ("a", "a"))), (("one", 1), ("skip",))]:
            machine = machine_of(sort, format)
            pairs = sorted(all_pairs(machine))
            for _ in range(60):
                thing = list(pairs)
                for _ in range(rng.choice((0, 0, 1, 2))):
                    if thing and rng.random() < 0.5:
                        thing.pop(rng.randrange(len(thing)))
                    else:
                        thing.append((rng.randrange(len(machine)), rng.randrange(len(machine))))
                rng.shuffle(thing)
                self.assertIs(is_closed(machine, tuple(thing)), self.closed_by_the_words(machine, thing))

    def test_any_order_and_more_pairs_than_needed(self):
        machine = machine_of(ONE, NAMES)
        self.assertTrue(is_closed(machine, ((1, 2), (3, 4))))
        self.assertTrue(is_closed(machine, ((3, 4), (1, 2), (3, 4))))
        self.assertTrue(is_closed(machine, ((1, 2), (3, 4), (4, 3))))
        self.assertTrue(is_closed(machine, ((1, 2), (3, 4), (1, 3))))
        self.assertFalse(is_closed(machine, ((1, 2), (3, 4), (1, 1))))
        self.assertFalse(is_closed(machine, ((1, 2), (3, 4), (4, 4))))
        self.assertFalse(is_closed(machine, ((1, 2), (3, 4), (0, 4))))

    def test_no_tuples_of_pairs_of_places(self):
        machine = machine_of(ONE, NAMES)
        for thing in (None, 0, True, "", [(1, 2), (3, 4)], ([1, 2], [3, 4]), ((1, 2), [3, 4]), ((1, 2), (3,)),
                      ((1, 2), (3, 4, 4)), ((1, 2), (3, 4), (5, 1)), ((1, 2), (3, 4), (-1, 1)), ((True, 2), (3, 4)),
                      ((1, 2), (3, 4), (True, 2)), ((1, 2), (3, 4), (3, False)), ((1, 2), (3.0, 4)), ((1, 2), None),
                      ((1, 2), (3, 4), ()), {(1, 2), (3, 4)}, {(1, 2): (3, 4)}, ((1, 2), (3, 4), "12"),
                      ((1, 2), (3, 4), (None, 1)), ((1, 2), (3, 4), ([], 1)), (1, 2), (), ((1, 2),), ((3, 4),),
                      ((2, 1), (4, 3)), ("12", "34")):
            with self.subTest(repr(thing)):
                self.assertIs(is_closed(machine, thing), False)
        self.assertIs(is_closed(machine_of(("one", 1), ("skip",)), ()), True)

    def test_twins(self):
        self.assertIs(are_twins(PRICE, LOOSE, (1, 23), (12, 3)), True)
        self.assertIs(are_twins(PRICE, TIGHT, (1, 23), (12, 3)), False)
        self.assertIs(are_twins(PRICE, LOOSE, (1, 23), (1, 23)), False)
        self.assertIs(are_twins(ONE, ("skip",), 0, 1), True)
        for one, other in ((0, 2), (2, 0), (0, True), (False, 1), (0, None), ("0", 1), (0, (1,)), (0, [1]), ([], {}),
                           (0, 1.0), (0, 0), (None, None)):
            with self.subTest((one, other)):
                self.assertIs(are_twins(ONE, ("skip",), one, other), False)


if __name__ == "__main__":
    unittest.main()
