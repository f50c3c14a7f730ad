"""[27] Whether all texts of one format are texts of another one."""

import random
import unittest
from unittest import mock

from readagain.errors import TooLarge
from readagain.including import including, is_outside, same_texts, shows_same, shows_within
from readagain.machines import machine_of
from readagain.sorts import how_many_values, is_value
from readagain.writing import write
from tests.making import (
    DIGITS, FIGURES, INT, LOOSE, PADDED, PRICE, TIGHT, TWO, WORD, all_values, some_cut_many, some_format, some_pair, some_values)
from tests.reckoning import END, ODD_THINGS, all_come_to, changed_tuples, lists_for_tuples, truths_for_integers
from tests.test_machines import ENDLESS
from tests.test_resync import gone_along

HUGE = ("checked", 16, 5, FIGURES)
AB = ("word", "ab", 0, None)
PLAIN = ("plain",)
# A reader of the second word must keep in mind the last eleven signs, for any a may be the one between.
WIDE_SORT = ("row", (AB, ("word", "ab", 8, 8), ("word", "ab", 3, 3)))
WIDE = ("row", ((0, PLAIN), "a", (1, PLAIN), (2, PLAIN)))


def lot_behind(other, lot, sign):
    found = set()
    for place in lot:
        if other[place][:2] == ("sign", sign):
            found |= gone_along(other, other[place][2])
    return tuple(sorted(found))


def first_told(other):
    return (0, tuple(sorted(gone_along(other, 0))))


def behind_told(machine, other, node):
    """All nodes that follow a node, word for word."""
    place, lot = node
    if lot == ():
        return set()
    row = machine[place]
    if row[0] == "marks":
        return {(behind, lot) for _, behind in row[1]}
    return {(row[2], lot_behind(other, lot, row[1]))} if row[0] == "sign" else set()


def nodes_told(machine, other):
    return all_come_to([first_told(other)], lambda node: behind_told(machine, other, node))


def is_wrong(machine, other, node):
    return node[1] == () or machine[node[0]] == END and not any(other[place] == END for place in node[1])


def is_node(machine, other, thing):
    if type(thing) is not tuple or len(thing) != 2 or type(thing[0]) is not int or type(thing[1]) is not tuple:
        return False
    return 0 <= thing[0] < len(machine) and all(type(place) is int and 0 <= place < len(other) for place in thing[1])


def within_by_the_words(machine, other, thing):
    if type(thing) is not tuple or not all(is_node(machine, other, part) for part in thing):
        return False
    return (first_told(other) in thing and not any(is_wrong(machine, other, node) for node in thing)
            and all(behind_told(machine, other, node) <= set(thing) for node in thing))


def texts_of(sort, format, values):
    return {write(sort, format, value) for value in values}


class Including(unittest.TestCase):
    def right(self, sort, format, other_sort, other, shortest):
        """Whether what is told is right; shortest: how many signs the shortest text beyond has, 0.5 if that isn't known."""
        told = including(sort, format, other_sort, other)
        machine, other_machine = machine_of(sort, format), machine_of(other_sort, other)
        nodes = nodes_told(machine, other_machine)
        self.assertLessEqual(len(nodes), 2000)
        if told[0] == "within":
            self.assertEqual(told, ("within", tuple(sorted(nodes))))
            self.assertIn(shortest, (None, 0.5))
            self.assertTrue(within_by_the_words(machine, other_machine, told[1]))
            self.assertIs(shows_within(machine, other_machine, told[1]), True)
        else:
            self.assertEqual((told[0], len(told)), ("beyond", 2))
            self.assertTrue(is_value(sort, told[1]))
            self.assertIs(is_outside(sort, format, told[1], other_sort, other), True)
            if shortest != 0.5:
                self.assertEqual(len(write(sort, format, told[1])), shortest)
            self.assertTrue(any(is_wrong(machine, other_machine, node) for node in nodes))
            self.assertIs(shows_within(machine, other_machine, tuple(sorted(nodes))), False)
        return told[0]

    def test_examples(self):
        self.assertEqual(
            (including(("int", 0, 7), FIGURES, DIGITS, FIGURES)[0], including(DIGITS, FIGURES, ("int", 0, 98), FIGURES),
             including(WORD, PLAIN, ("word", "abc", 0, None), PLAIN)[0]), ("within", ("beyond", 99), "within"))

    def test_the_nodes_of_names(self):
        one, names = ("one", 1), ("names", ("ab",))
        # name 0 leads from 0 to 1, a to 2, b to the end.
        self.assertEqual(including(one, names, one, names), ("within", ((0, (0, 1)), (1, (0, 1)), (2, (2,)), (3, (3,)))))
        self.assertEqual(including(one, names, ("one", 2), ("names", ("ab", "ac")))[0], "within")
        self.assertEqual(including(("one", 2), ("names", ("ab", "ac")), one, names), ("beyond", 1))
        self.assertEqual(including(("row", ()), ("row", ()), ("row", ()), ("skip",)), ("within", ((0, (0,)),)))
        self.assertEqual(including(("row", ()), ("row", ("a",)), ("row", ()), ("row", ())), ("beyond", ()))
        self.assertEqual(including(("row", ()), ("row", ()), ("row", ()), ("row", ("a",))), ("beyond", ()))

    def test_finitely_many_values(self):
        rng = random.Random(201)
        found = {"within": 0, "beyond": 0}
        while min(found.values()) < 60:
            sort, format = some_pair(rng, False, rng.choice((1, 2, 3)))
            other_sort, other = some_pair(rng, False, rng.choice((1, 2, 3)))
            if rng.random() < 0.6:
                other_sort, other = sort, some_format(rng, sort, 7)
            if rng.random() < 0.5:
                other_sort, other = ("case", (other_sort, sort)), ("case", (other, format))
            if max(how_many_values(sort), how_many_values(other_sort)) > 300:
                continue
            beyond = texts_of(sort, format, all_values(sort)) - texts_of(other_sort, other, all_values(other_sort))
            with self.subTest((sort, format, other_sort, other)):
                try:
                    found[self.right(sort, format, other_sort, other, min([len(text) for text in beyond], default=None))] += 1
                except TooLarge:
                    pass

    def test_endless_many_values(self):
        rng = random.Random(202)
        found = {"within": 0, "beyond": 0}
        for sort, format in ENDLESS + [rng.choice((some_pair(rng, True, 3), some_cut_many(rng))) for _ in range(60)]:
            other_sort, other = rng.choice(((sort, some_format(rng, sort, 6)), some_pair(rng, True, 2)))
            if rng.random() < 0.5:
                other_sort, other = ("case", (other_sort, sort)), ("case", (other, format))
            with self.subTest((sort, format, other_sort, other)):
                try:
                    word = self.right(sort, format, other_sort, other, 0.5)
                except TooLarge:
                    continue
                found[word] += 1
                self.assertTrue(word == "beyond" or other_sort[0] != "case" or other[1][-1] == format or sort[0] == "case")
                if word == "within":
                    for value in some_values(rng, sort, 30):
                        self.assertIs(is_outside(sort, format, value, other_sort, other), False)
        self.assertGreater(min(found.values()), 10)

    def test_some_known_ones(self):
        natural = ("int", 0, None)
        for sort, format, other_sort, other, shortest in (
                (natural, FIGURES, INT, FIGURES, None), (INT, FIGURES, natural, FIGURES, 2),
                (PRICE, TIGHT, PRICE, LOOSE, 3), (PRICE, LOOSE, PRICE, TIGHT, 2), (PRICE, LOOSE, natural, FIGURES, 2),
                (natural, FIGURES, PRICE, LOOSE, 1), (DIGITS, PADDED, DIGITS, TWO, None), (DIGITS, PADDED, DIGITS, FIGURES, 2),
                (natural, FIGURES, ("word", "0123456789", 0, None), PLAIN, None), (AB, PLAIN, ("word", "ab", 0, 12), PLAIN, 13),
                (("word", "ab", 2, None), PLAIN, ("many", ("one", 2), 0, None), ("many", "", "", "", "", ("names", ("a", "bb"))), 2),
                (("many", ("one", 2), 0, None), ("many", "", "", "", "", ("names", ("ab", "ba"))), ("word", "ab", 0, None), PLAIN, None),
                (INT, ("skip",), AB, PLAIN, None), (AB, ("skip",), AB, ("quoted", "'", "!"), 0),
                (("int", 0, 9), ("figures", 16, "-", 1, 0, "", ""), ("int", 0, 9), FIGURES, None)):
            with self.subTest((sort, format, other_sort, other)):
                self.right(sort, format, other_sort, other, shortest)

    def test_equal_answers(self):
        told = including(PRICE, TIGHT, PRICE, LOOSE)
        same_texts(PRICE, TIGHT, PRICE, LOOSE)
        self.assertEqual(including(PRICE, TIGHT, PRICE, LOOSE), told)


class Same(unittest.TestCase):
    def test_same_first_and_second(self):
        machine, other = machine_of(DIGITS, PADDED), machine_of(DIGITS, TWO)
        told = same_texts(DIGITS, PADDED, DIGITS, TWO)
        self.assertEqual(told, ("same", including(DIGITS, PADDED, DIGITS, TWO)[1], including(DIGITS, TWO, DIGITS, PADDED)[1]))
        self.assertIs(shows_same(machine, other, told[1:]), True)
        self.assertEqual(same_texts(DIGITS, FIGURES, ("int", 0, 98), FIGURES), ("first", 99))
        self.assertEqual(same_texts(("int", 0, 98), FIGURES, DIGITS, FIGURES), ("second", 99))
        self.assertEqual(same_texts(("int", 5, 6), FIGURES, ("int", 7, 7), FIGURES)[0], "first")

    def test_drawn_ones(self):
        rng = random.Random(203)
        found = {"same": 0, "first": 0, "second": 0}
        while min(found.values()) < 25:
            sort, format = some_pair(rng, False, rng.choice((1, 2)))
            other_sort, other = rng.choice(((sort, some_format(rng, sort, 7)), (("case", (sort, sort)), ("case", (format, format))),
                                            (("case", (WORD, sort)), ("case", (PLAIN, format)))))
            if how_many_values(sort) > 200:
                continue
            texts, other_texts = texts_of(sort, format, all_values(sort)), texts_of(other_sort, other, all_values(other_sort))
            with self.subTest((sort, format, other_sort, other)):
                try:
                    told = same_texts(sort, format, other_sort, other)
                except TooLarge:
                    continue
                found[told[0]] += 1
                machine, other_machine = machine_of(sort, format), machine_of(other_sort, other)
                self.assertEqual(told[0], "first" if texts - other_texts else "second" if other_texts - texts else "same")
                if told[0] == "same":
                    self.assertEqual(told[1:], (tuple(sorted(nodes_told(machine, other_machine))),
                                                tuple(sorted(nodes_told(other_machine, machine)))))
                    self.assertIs(shows_same(machine, other_machine, told[1:]), True)
                elif told[0] == "first":
                    self.assertEqual(len(write(sort, format, told[1])), min(map(len, texts - other_texts)))
                    self.assertNotIn(write(sort, format, told[1]), other_texts)
                else:
                    self.assertEqual(len(write(other_sort, other, told[1])), min(map(len, other_texts - texts)))
                    self.assertNotIn(write(other_sort, other, told[1]), texts)


class Outside(unittest.TestCase):
    def test_values_outside(self):
        for value, told in ((99, True), (98, False), (0, False), (100, False), (-1, False), (True, False), (None, False), ("99", False),
                            ((99,), False), ([99], False), (99.0, False)):
            with self.subTest(repr(value)):
                self.assertIs(is_outside(DIGITS, FIGURES, value, ("int", 0, 98), FIGURES), told)
        # What is a longer text's beginning, or goes on behind a text, is outside, too.
        for text, told in (("a", True), ("ab", False), ("abb", True), ("", True), ("b", True)):
            self.assertIs(is_outside(("word", "ab", 0, 3), PLAIN, text, ("one", 1), ("names", ("ab",))), told)

    def test_drawn_ones(self):
        rng = random.Random(204)
        found = {True: 0, False: 0}
        while min(found.values()) < 100:
            sort, format = some_pair(rng, True, rng.choice((1, 2)))
            other_sort, other = rng.choice((some_pair(rng, False, 2), (("int", 0, 40), FIGURES)))
            if how_many_values(other_sort) > 300:
                continue
            try:
                machine_of(other_sort, other)
            except TooLarge:
                continue
            texts = texts_of(other_sort, other, all_values(other_sort))
            for value in some_values(rng, sort, 5):
                told = is_outside(sort, format, value, other_sort, other)
                self.assertIs(told, write(sort, format, value) not in texts, (sort, format, value, other_sort, other))
                found[told] += 1


class Judges(unittest.TestCase):
    def test_what_shows_that_all_are_within(self):
        rng = random.Random(205)
        answers = {True: 0, False: 0}
        for sort, format, other_sort, other in (
                (("one", 1), ("names", ("ab",)), ("one", 2), ("names", ("ab", "abb"))), (WORD, PLAIN, AB, PLAIN),
                (AB, PLAIN, WORD, PLAIN), (("int", 0, 20), TWO, DIGITS, TWO), (PRICE, TIGHT, PRICE, LOOSE),
                (("one", 2), ("names", ("a", "b")), ("one", 1), ("names", ("a",)))):
            machine, other_machine = machine_of(sort, format), machine_of(other_sort, other)
            told = sorted(nodes_told(machine, other_machine))

            def some_key(source):
                lot = [source.randrange(len(other_machine)) for _ in range(source.choice((0, 1, 1, 2, 3)))]
                return (source.randrange(len(machine)), tuple(source.choice((lot, sorted(set(lot))))))
            for thing in changed_tuples(rng, told, some_key, 120):
                if rng.random() < 0.5:
                    thing = tuple(all_come_to(thing, lambda node: behind_told(machine, other_machine, node)))
                answer = shows_within(machine, other_machine, thing)
                self.assertIs(answer, within_by_the_words(machine, other_machine, thing), thing)
                answers[answer] += 1
        self.assertGreater(min(answers.values()), 60)

    def test_what_else_shows_it(self):
        one, names = ("one", 1), ("names", ("ab",))
        machine = machine_of(one, names)
        told = ((0, (0, 1)), (1, (0, 1)), (2, (2,)), (3, (3,)))
        for more in ((), told, ((3, (3, 2)),), ((3, (3, 3)),), ((2, (2, 1)), (1, (1,))), ((1, (1, 0)),), ((3, (0, 1, 2, 3)),)):
            self.assertIs(shows_within(machine, machine, told + more), True)
            self.assertIs(shows_within(machine, machine, (more + told)[::-1]), True)
        # By the places of 0 alone, without those behind its marks, no text is followed.
        for more in (((0, (0,)),), ((1, (0,)),), ((3, ()),), ((0, ()),), ((3, (2,)),), ((2, (1,)),), ((2, (2, 4)),), ((4, (3,)),)):
            self.assertIs(shows_within(machine, machine, told + more), False)

    def test_things_that_show_nothing(self):
        machine, other = machine_of(("one", 1), ("names", ("ab",))), machine_of(("one", 2), ("names", ("ab", "abb")))
        told = including(("one", 1), ("names", ("ab",)), ("one", 2), ("names", ("ab", "abb")))[1]
        self.assertIs(shows_within(machine, other, told), True)
        for at in range(len(told)):
            self.assertIs(shows_within(machine, other, told[:at] + told[at + 1:]), False)
        changed = truths_for_integers(told)
        self.assertEqual(changed, told)
        self.assertIs(shows_within(machine, other, changed), False)
        lots = tuple((place, tuple(True if at == 1 else at for at in lot)) for place, lot in told)
        self.assertEqual(lots, told)
        self.assertIs(shows_within(machine, other, lots), False)
        for thing in list(ODD_THINGS) + list(lists_for_tuples(told)) + [
                dict.fromkeys(told), set(told), told + (None,), told + ((0,),), told + ((0, 0),), told + ((0, (0, 1), 0),),
                told + ((0, [0, 1]),), told + ((0, "01"),), told + ((-1, (0,)),), told + ((0, (-1,)),), told + ((99, (0,)),),
                told + ((0, (99,)),), told + ((0.0, (0, 1)),), told + ((0, (None,)),)]:
            with self.subTest(repr(thing)):
                self.assertIs(shows_within(machine, other, thing), False)
                self.assertIs(shows_same(machine, other, (thing, thing)), False)
                self.assertIs(shows_same(machine, other, thing), False)

    def test_what_shows_that_texts_are_the_same(self):
        machine, other = machine_of(DIGITS, PADDED), machine_of(DIGITS, TWO)
        _, one, two = same_texts(DIGITS, PADDED, DIGITS, TWO)
        self.assertIs(shows_same(machine, other, (one[::-1], two + two)), True)
        self.assertIs(shows_same(other, machine, (two, one)), True)
        for thing in ((two, one), (one, one), (one,), (one, two, two), [one, two], (one, list(two)), (one[1:], two), (one, two[:-1]),
                      (one, ()), ((), two), one, None, {0: one, 1: two}):
            with self.subTest(repr(thing)[:100]):
                self.assertIs(shows_same(machine, other, thing), False)
        within = including(("int", 0, 7), FIGURES, DIGITS, FIGURES)[1]
        less, more = machine_of(("int", 0, 7), FIGURES), machine_of(DIGITS, FIGURES)
        self.assertIs(shows_within(less, more, within), True)
        self.assertIs(shows_same(less, more, (within, tuple(sorted(nodes_told(more, less))))), False)


class Errors(unittest.TestCase):
    def test_too_large_a_machine(self):
        for call in (including, same_texts):
            for args in ((INT, HUGE, WORD, PLAIN), (WORD, PLAIN, INT, HUGE), (INT, HUGE, WIDE_SORT, WIDE), (AB, HUGE[:3] + (PLAIN,), INT, HUGE)):
                with self.assertRaises(TooLarge) as caught:
                    call(*args)
                self.assertEqual(caught.exception.most, 500)

    def test_the_first_one_is_asked_first(self):
        asked = []

        def told(sort, format):
            asked.append(format)
            return machine_of(sort, format)
        with mock.patch("readagain.including.machine_of", told):
            for call in (including, same_texts):
                del asked[:]
                call(DIGITS, TWO, DIGITS, PADDED)
                self.assertEqual(asked, [TWO, PADDED])
                del asked[:]
                with self.assertRaises(TooLarge):
                    call(INT, HUGE, DIGITS, PADDED)
                self.assertEqual(asked, [HUGE])

    def test_is_outside_needs_the_other_machine_alone(self):
        self.assertIs(is_outside(INT, HUGE, 7, DIGITS, FIGURES), write(INT, HUGE, 7) not in texts_of(DIGITS, FIGURES, range(100)))
        self.assertIs(is_outside(INT, HUGE, None, DIGITS, FIGURES), False)
        for value in (7, None, "x", True):
            with self.assertRaises(TooLarge) as caught:
                is_outside(DIGITS, FIGURES, value, INT, HUGE)
            self.assertEqual(caught.exception.most, 500)

    def test_more_than_2000_nodes(self):
        self.assertLess(len(machine_of(WIDE_SORT, WIDE)), 100)
        # The first text of the first format, which has no signs, is beyond; all nodes are looked at all the same.
        self.assertIs(is_outside(AB, PLAIN, "", WIDE_SORT, WIDE), True)
        for args in ((AB, PLAIN, WIDE_SORT, WIDE), (WIDE_SORT, WIDE, WIDE_SORT, WIDE)):
            for call in (including, same_texts):
                with self.subTest(args), self.assertRaises(TooLarge) as caught:
                    call(*args)
                self.assertEqual(caught.exception.most, 2000)
        # One way round there are few nodes, and the answer is told where that is all that is asked.
        self.assertEqual(including(WIDE_SORT, WIDE, AB, PLAIN)[0], "within")
        with self.assertRaises(TooLarge) as caught:
            same_texts(WIDE_SORT, WIDE, AB, PLAIN)
        self.assertEqual(caught.exception.most, 2000)
        self.assertEqual(same_texts(WIDE_SORT, WIDE, ("word", "ab", 0, 0), PLAIN)[0], "first")

    def test_the_number_of_nodes_that_is_too_large(self):
        machine = machine_of(PRICE, TIGHT)
        many = len(nodes_told(machine, machine))
        for most, is_raised in ((many, False), (many - 1, True), (many + 1, False)):
            with mock.patch("readagain.including.MOST_NODES", most):
                if is_raised:
                    self.assertRaises(TooLarge, including, PRICE, TIGHT, PRICE, TIGHT)
                else:
                    self.assertEqual(len(including(PRICE, TIGHT, PRICE, TIGHT)[1]), many)


if __name__ == "__main__":
    unittest.main()
