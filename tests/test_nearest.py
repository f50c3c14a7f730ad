"""[24] Nearest texts."""

import random
import unittest
from functools import lru_cache

from readagain.errors import BadText, TooLarge
from readagain.machines import machine_of
from readagain.nearest import changes_between, is_nearest, nearest, no_nearer
from readagain.sorts import how_many_values, is_value
from readagain.writing import write
from tests.making import DIGITS, FIGURES, INT, PRICE, TIGHT, TWO, WORD, all_values, some_pair, some_text, some_values
from tests.reckoning import END, ODD_THINGS, all_come_to, changed_dicts, is_whole, lists_for_tuples, raised_numbers, truths_for_integers
from tests.test_machines import ENDLESS

HUGE = ("checked", 16, 5, FIGURES)
ONE = ("one", 2)
ANIMALS = ("names", ("kitten", "bat"))


@lru_cache(None)
def changes_told(one, other):
    """The fewest changes, told sign by sign from the beginning."""
    if one == "" or other == "":
        return len(one) + len(other)
    if one[0] == other[0]:
        return changes_told(one[1:], other[1:])
    return 1 + min(changes_told(one[1:], other), changes_told(one, other[1:]), changes_told(one[1:], other[1:]))


def node_steps(machine, text, node):
    """What follows a node, word for word: the list of (node behind, cost)."""
    place, many = node
    row = machine[place]
    if row[0] == "marks":
        return [((behind, many), 0) for _, behind in row[1]]
    found = []
    if row[0] == "sign":
        found.append(((row[2], many), 1))
        if many < len(text):
            found.append(((row[2], many + 1), 0 if row[1] == text[many] else 1))
    if many < len(text):
        found.append(((place, many + 1), 1))
    return found


def all_nodes(machine, text):
    return all_come_to([(0, 0)], lambda node: [behind for behind, _ in node_steps(machine, text, node)])


def costs_told(machine, text):
    goal = (machine.index(END), len(text))
    costs = {node: 0 if node == goal else None for node in all_nodes(machine, text)}
    changed = True
    while changed:
        changed = False
        for node in costs:
            for behind, cost in node_steps(machine, text, node):
                if costs[behind] is not None and (costs[node] is None or costs[behind] + cost < costs[node]):
                    costs[node] = costs[behind] + cost
                    changed = True
    return costs


def none_nearer_by_the_words(machine, text, n, thing):
    if not is_whole(n) or type(thing) is not dict or not all(is_whole(many) for many in thing.values()):
        return False
    for node in thing:
        if type(node) is not tuple or len(node) != 2 or not all(type(part) is int for part in node):
            return False
        if not 0 <= node[0] < len(machine) or not 0 <= node[1] <= len(text):
            return False
    if (0, 0) not in thing or thing[(0, 0)] < n:
        return False
    for node, many in thing.items():
        if machine[node[0]] == END and node[1] == len(text) and many != 0:
            return False
        if not all(behind in thing and many <= cost + thing[behind] for behind, cost in node_steps(machine, text, node)):
            return False
    return True


class Changes(unittest.TestCase):
    def test_changes(self):
        rng = random.Random(141)
        self.assertEqual(changes_between("kitten", "sitting"), 3)
        for one, other, told in (("", "", 0), ("a", "", 1), ("", "abc", 3), ("a", "b", 1), ("ab", "ba", 2), ("abc", "abc", 0),
                                 ("abc", "bcd", 2), ("\u25a1", "a", 1), ("aaaa", "aa", 2)):
            self.assertEqual(changes_between(one, other), told)
        for _ in range(300):
            one, other = some_text(rng, 0, 9), some_text(rng, 0, 9)
            self.assertEqual(changes_between(one, other), changes_told(one, other))


class Nearest(unittest.TestCase):
    def right(self, sort, format, text, values, known):
        told = nearest(sort, format, text)
        machine = machine_of(sort, format)
        self.assertEqual((type(told), len(told)), (tuple, 3))
        n, value, table = told
        self.assertTrue(is_value(sort, value))
        self.assertEqual(changes_between(text, write(sort, format, value)), n)
        least = min(changes_between(text, write(sort, format, other)) for other in values)
        if known:
            self.assertEqual(n, least)
        self.assertLessEqual(n, least)
        self.assertEqual(list(table), sorted(table))
        self.assertEqual(table[(0, 0)], n)
        if len(table) < 1500:
            self.assertEqual(table, costs_told(machine, text))
        self.assertIs(no_nearer(machine, text, n, table), True)
        self.assertIs(no_nearer(machine, text, n + 1, table), False)
        self.assertIs(is_nearest(sort, format, text, told), True)
        for other in list(values)[:20]:
            fits = changes_between(text, write(sort, format, other)) == n
            self.assertIs(is_nearest(sort, format, text, (n, other, table)), fits)

    def test_example(self):
        self.assertEqual(nearest(ONE, ANIMALS, "kittn")[:2], (1, 0))

    def test_of_one_name(self):
        self.assertEqual(nearest(("one", 1), ("names", ("a",)), "b"), (
            1, 0, {(0, 0): 1, (1, 0): 1, (1, 1): 1, (2, 0): 1, (2, 1): 0}))
        self.assertEqual(nearest(("one", 1), ("names", ("a",)), ""), (1, 0, {(0, 0): 1, (1, 0): 1, (2, 0): 0}))
        self.assertEqual(nearest(("row", ()), ("row", ()), "\n"), (1, (), {(0, 0): 1, (0, 1): 0}))

    def test_finitely_many_values(self):
        rng = random.Random(142)
        tried = 0
        while tried < 100:
            sort, format = some_pair(rng, False, rng.choice((1, 2, 3)))
            if how_many_values(sort) <= 200:
                tried += 1
                values = all_values(sort)
                text = write(sort, format, rng.choice(values)) if rng.random() < 0.5 else some_text(rng, 0, 12)
                text = (text[:3] + rng.choice(("", "x", "\u00e9")) + text[4:])[:60]
                with self.subTest((sort, format, text)):
                    try:
                        self.right(sort, format, text, values, True)
                    except TooLarge:
                        pass

    def test_endless_many_values(self):
        rng = random.Random(143)
        for sort, format in ENDLESS:
            values = some_values(rng, sort, 60)
            text = write(sort, format, values[0])[1:50] + "x"
            if len(machine_of(sort, format)) < 150:
                with self.subTest((sort, format, text)):
                    self.right(sort, format, text, values, False)
        for sort, format, text, n in (
                (INT, FIGURES, "", 1), (INT, FIGURES, "12", 0), (INT, FIGURES, "1x2", 1), (INT, FIGURES, "007", 1), (INT, FIGURES, "-0", 1),
                (INT, ("figures", 10, "-", 1, 3, ",", ""), "12345678", 2), (PRICE, TIGHT, "1", 2), (WORD, ("quoted", "'", "a"), "a", 2),
                (("word", "ab", 0, None), ("quoted", "'", "a"), "'ab'", 1), (("one", 1), ("names", ("abc",)), "\u25a1bc", 1)):
            with self.subTest((sort, format, text)):
                self.assertEqual(nearest(sort, format, text)[0], n)

    def test_long_texts(self):
        sort = ("word", "ab", 0, None)
        self.assertEqual(nearest(sort, ("plain",), "ab" * 30)[:2], (0, "ab" * 30))
        self.assertEqual(nearest(sort, ("plain",), "x" * 60)[0], 60)
        self.assertEqual(nearest(("word", "ab", 0, 12), ("plain",), "a" * 60)[0], 48)
        self.assertEqual(nearest(("word", "ab", 0, 12), ("plain",), "")[:2], (0, ""))
        self.assertEqual(nearest(("word", "ab", 0, 12), ("plain",), "b")[:2], (0, "b"))

    def test_other_texts(self):
        for text in ("a" * 61, None, 12, ("a",), ["a"], b"a", True):
            for call in (lambda: nearest(WORD, ("plain",), text), lambda: is_nearest(WORD, ("plain",), text, None)):
                with self.subTest(repr(text)), self.assertRaises(BadText) as caught:
                    call()
                self.assertEqual(caught.exception.place, 0)

    def test_too_large(self):
        for text in ("12", "a" * 61, None):
            for call in (lambda: nearest(INT, HUGE, text), lambda: is_nearest(INT, HUGE, text, None)):
                with self.assertRaises(TooLarge) as caught:
                    call()
                self.assertEqual(caught.exception.most, 500)

    def test_equal_answers(self):
        told = nearest(DIGITS, TWO, "1x")
        kept = dict(told[2])
        told[2].clear()
        self.assertEqual(nearest(DIGITS, TWO, "1x")[2], kept)


class Judges(unittest.TestCase):
    def test_what_shows_that_none_is_nearer(self):
        rng = random.Random(144)
        answers = {True: 0, False: 0}
        for sort, format, text in ((ONE, ("names", ("ab", "c")), "ac"), (("one", 1), ("names", ("a",)), "b"), (DIGITS, TWO, "1x"),
                                   (WORD, ("plain",), "cc"), (("row", ()), ("row", ()), "x"), (("one", 1), ("names", ("",)), "")):
            machine = machine_of(sort, format)
            n, _, table = nearest(sort, format, text)

            def some_key(source):
                return (source.randrange(len(machine)), source.randint(0, len(text) + 1))

            def some_number(source):
                return source.choice((0, 0, 1, 1, 2, 3, True, None, -1, "1", 1.0))
            things = list(changed_dicts(rng, table, some_key, some_number, 80)) + list(raised_numbers(rng, table, 20))
            things += [{node: max(0, many - 1) for node, many in table.items()}]
            for thing in things:
                fewest = rng.choice((n, n, max(0, n - 1), n + 1))
                answer = no_nearer(machine, text, fewest, thing)
                self.assertIs(answer, none_nearer_by_the_words(machine, text, fewest, thing), (fewest, thing))
                answers[answer] += 1
        self.assertGreater(min(answers.values()), 60)

    def test_what_else_shows_it(self):
        sort, format = ("one", 1), ("names", ("a",))
        machine = machine_of(sort, format)
        table = {(0, 0): 1, (1, 0): 1, (1, 1): 1, (2, 0): 1, (2, 1): 0}
        self.assertIs(no_nearer(machine, "b", 1, table), True)
        self.assertIs(no_nearer(machine, "b", 0, table), True)
        self.assertIs(no_nearer(machine, "b", 0, dict.fromkeys(table, 0)), True)
        self.assertIs(no_nearer(machine, "b", 1, {**table, (0, 1): 1}), True)
        self.assertIs(no_nearer(machine, "b", 1, {**table, (0, 1): 2}), False)
        self.assertIs(no_nearer(machine, "b", 1, dict.fromkeys(table, 0)), False)
        self.assertIs(no_nearer(machine, "a", 1, table), False)
        self.assertIs(no_nearer(machine, "bb", 1, table), False)
        self.assertIs(is_nearest(sort, format, "b", (1, 0, {**table, (0, 1): 0})), True)
        self.assertIs(is_nearest(sort, format, "b", (1, 0, {**table, (0, 1): 2})), False)

    def test_things_that_show_nothing(self):
        sort, format = ONE, ("names", ("ab", "c"))
        machine = machine_of(sort, format)
        told = nearest(sort, format, "b")
        n, value, table = told
        self.assertEqual((n, no_nearer(machine, "b", n, table), is_nearest(sort, format, "b", told)), (1, True, True))
        self.assertIs(no_nearer(machine, "b", n, truths_for_integers(table)), False)
        for node in table:
            self.assertIs(no_nearer(machine, "b", n, {other: many for other, many in table.items() if other != node}), False)
        for thing in list(ODD_THINGS) + list(lists_for_tuples(table)) + [
                tuple(table.items()), {**table, (0, 2): 0}, {**table, (-1, 0): 0}, {**table, (9, 0): 0}, {**table, (0, 0, 0): 0},
                {**table, "00": 0}, {**table, (0, "0"): 0}, {**table, (0, 0): 1.0}, {**table, (0, 0): True}]:
            with self.subTest(repr(thing)):
                self.assertIs(no_nearer(machine, "b", n, thing), False)
                self.assertIs(is_nearest(sort, format, "b", (n, value, thing)), False)
        for other in (True, None, "1", 1.0, -1, (1,)):
            with self.subTest(repr(other)):
                self.assertIs(no_nearer(machine, "b", other, table), False)
                self.assertIs(is_nearest(sort, format, "b", (other, value, table)), False)
        for thing in list(ODD_THINGS) + list(lists_for_tuples(told)) + [
                told[:2], told + (0,), (n, True, table), (n, False, table), (n, 2, table), (n, None, table), (n, "0", table), (n + 1, value, table),
                (n - 1, value, table), (0, value, dict.fromkeys(table, 0))]:
            with self.subTest(repr(thing)):
                self.assertIs(is_nearest(sort, format, "b", thing), False)
        for text in (None, 1, ["b"], ("b",)):
            self.assertIs(no_nearer(machine, text, n, table), False)


if __name__ == "__main__":
    unittest.main()
