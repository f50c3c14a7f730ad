"""[14] Formats that write alike, and what shows it."""

import random
import unittest

from readagain.alike import compared, do_spell_alike, shows_alike, shows_unlike
from readagain.errors import BadPair, TooLarge
from readagain.formats import is_format
from readagain.linking import links, starts
from readagain.machines import machine_of
from readagain.sorts import how_many_values
from readagain.writing import write
from tests.making import DIGITS, FIGURES, INT, LOOSE, PADDED, PRICE, TIGHT, TWO, WORD, all_values, some_pair, some_values
from tests.reckoning import END, ODD_THINGS, changed_dicts, lists_for_tuples, truths_for_integers
from tests.test_linking import spelled_alike
from tests.test_machines import BOUNDED

BITS = ("figures", 2, "-", 1, 0, "", "")
HUGE = ("checked", 16, 5, FIGURES)


def leaves(surplus, text, other_text):
    """The surplus behind a surplus and texts, None if they are unlike."""
    one = (surplus[1] if surplus[0] == 1 else "") + text
    other = (surplus[1] if surplus[0] == 2 else "") + other_text
    if not one.startswith(other) and not other.startswith(one):
        return None
    if len(one) == len(other):
        return (0, "")
    return (1, one[len(other):]) if len(one) > len(other) else (2, other[len(one):])


def alike_by_the_words(machine, other, thing):
    told = links(machine, other)
    if type(thing) is not dict or set(thing) != set(told):
        return False
    if any(type(part) is not int for pair in thing for part in pair):
        return False
    for surplus in thing.values():
        if type(surplus) is not tuple or len(surplus) != 2 or type(surplus[0]) is not int or type(surplus[1]) is not str:
            return False
        if surplus != (0, "") and (surplus[0] not in (1, 2) or surplus[1] == ""):
            return False
    for text, other_text, pair in starts(machine, other):
        if leaves((0, ""), text, other_text) != thing[pair]:
            return False
    for pair, row in told.items():
        if machine[pair[0]] == other[pair[1]] == END and thing[pair] != (0, ""):
            return False
        for _, text, other_text, behind in row:
            if leaves(thing[pair], text, other_text) != thing[behind]:
                return False
    return True


class SpelledAlike(unittest.TestCase):
    def test_integers(self):
        grouped = ("figures", 10, "+", 4, 3, ",", "#")
        for one, other, told in (
                (FIGURES, TWO, True), (FIGURES, grouped, True), (FIGURES, BITS, False), (FIGURES, ("skip",), True),
                (("skip",), ("skip",), True), (BITS, ("skip",), False), (("pad", 2, "0", ">", BITS), ("cut", 1, BITS), True),
                (("checked", 3, 2, FIGURES), ("pad", 3, "a", "^", ("skip",)), True), (("powers", 10, "-"), FIGURES, False),
                (("powers", 10, "-"), ("powers", 10, "+"), True), (("powers", 10, "-"), ("powers", 2, "-"), False),
                (("powers", 10, "-"), ("skip",), False), (("powers", 2, " "), ("checked", 3, 1, ("powers", 2, "+")), True)):
            with self.subTest((one, other)):
                self.assertIs(do_spell_alike(DIGITS, one, other), told)
                self.assertIs(do_spell_alike(DIGITS, other, one), told)

    def test_integers_within(self):
        sort = ("row", (WORD, ("maybe", ("many", ("case", (DIGITS, ("one", 2))), 0, 0))))

        def with_figures(format, text):
            inner = ("case", (format, ("names", ("a", text))))
            return ("row", ((0, ("plain",)), (1, ("maybe", text, ("many", text, "", "", "", inner)))))
        one = with_figures(FIGURES, "x")
        self.assertIs(do_spell_alike(sort, one, with_figures(TWO, "yy")), True)
        self.assertIs(do_spell_alike(sort, one, with_figures(BITS, "x")), False)
        self.assertIs(do_spell_alike(sort, one, ("skip",)), True)
        self.assertIs(do_spell_alike(sort, with_figures(BITS, "x"), ("skip",)), False)
        self.assertIs(do_spell_alike(sort, with_figures(("skip",), "x"), ("pad", 1, "a", "<", one)), True)
        self.assertIs(do_spell_alike(sort, with_figures(("powers", 10, "-"), "x"), one), False)

    def test_other_sorts_always_do(self):
        self.assertIs(do_spell_alike(WORD, ("plain",), ("quoted", "a", "b")), True)
        self.assertIs(do_spell_alike(("one", 2), ("names", ("a", "b")), ("skip",)), True)
        self.assertIs(do_spell_alike(("row", ()), ("row", ()), ("row", ("a",))), True)


class Compared(unittest.TestCase):
    def right(self, sort, one, other, values, known):
        """What is compared is right for some values: for all of them, if they are known."""
        told = compared(sort, one, other)
        unlike = [value for value in values if write(sort, one, value) != write(sort, other, value)]
        machine, other_machine = machine_of(sort, one), machine_of(sort, other)
        if told[0] == "alike":
            self.assertEqual((len(told), unlike), (2, []))
            self.assertEqual(list(told[1]), sorted(links(machine, other_machine)))
            self.assertTrue(alike_by_the_words(machine, other_machine, told[1]))
            self.assertIs(shows_alike(sort, one, other, told[1]), True)
        else:
            self.assertEqual((told[0], len(told)), ("unlike", 2))
            self.assertIs(shows_unlike(sort, one, other, told[1]), True)
            self.assertNotEqual(write(sort, one, told[1]), write(sort, other, told[1]))
            if known:
                self.assertIn(told[1], values)
        for value in values[:100]:
            self.assertIs(shows_unlike(sort, one, other, value), value in unlike)
        return told

    def test_examples(self):
        self.assertEqual(
            (compared(DIGITS, PADDED, TWO)[0], compared(("int", -9, 99), PADDED, TWO)[0],
             shows_unlike(("int", -9, 99), PADDED, TWO, -3)), ("alike", "unlike", True))

    def test_of_one_name(self):
        sort = ("one", 1)
        self.assertEqual(compared(sort, ("names", ("ab",)), ("pad", 2, "b", "<", ("names", ("a",)))),
                         ("alike", {(0, 1): (0, ""), (3, 4): (0, "")}))
        self.assertEqual(compared(sort, ("names", ("ab",)), ("names", ("c",))), ("unlike", 0))
        self.assertEqual(compared(sort, ("names", ("ab",)), ("names", ("a",))), ("unlike", 0))

    def test_surpluses(self):
        sort = ("row", (("one", 1), ("one", 1)))
        one = ("row", ((0, ("names", ("ab",))), (1, ("names", ("c",)))))
        other = ("row", ((0, ("names", ("a",))), (1, ("names", ("bc",)))))
        self.assertEqual(sorted(compared(sort, one, other)[1].values()), [(0, ""), (0, ""), (1, "b")])
        self.assertEqual(sorted(compared(sort, other, one)[1].values()), [(0, ""), (0, ""), (2, "b")])

    def test_formats_that_write_alike(self):
        words = ("word", "ab", 0, None)
        for sort, one, other in (
                (INT, FIGURES, ("figures", 10, "-", 1, 0, "", "")), (INT, FIGURES, ("pad", 1, "x", "<", FIGURES)),
                (("int", 0, None), PADDED, TWO), (("int", 100, None), PADDED, FIGURES), (INT, ("skip",), ("cut", 0, FIGURES)),
                (("int", -9, -1), ("figures", 10, "+", 1, 0, "", ""), FIGURES),
                (words, ("plain",), ("spelled", (("a", "a"), ("b", "b")))),
                (words, ("quoted", "'", "!"), ("pad", 2, "'", "<", ("quoted", "'", "!"))),
                (words, ("pad", 3, "a", ">", ("cut", 3, ("plain",))), ("cut", 3, ("pad", 3, "a", ">", ("plain",)))),
                (PRICE, TIGHT, ("row", ((0, FIGURES), (1, TWO)))),
                (("many", DIGITS, 0, None), ("many", "", "", ";", ";", FIGURES),
                 ("many", "", "", "", "", ("many", "", "", "", "", FIGURES)))):
            if is_format(sort, other):
                with self.subTest((sort, one, other)):
                    self.assertEqual(self.right(sort, one, other, some_values(random.Random(3), sort, 100), False)[0], "alike")
                    self.assertEqual(self.right(sort, other, one, [], False)[0], "alike")

    def test_rows_of_signs_that_stand_elsewhere(self):
        sort = ("many", ("one", 1), 0, None)
        one = ("many", "ab", "ab", "ab", "ab", ("names", ("",)))
        other = ("many", "ab", "a", "ba", "bab", ("names", ("",)))
        told = self.right(sort, one, other, [()] + [(0,) * many for many in range(9)], False)
        self.assertEqual(told[0], "alike")
        self.assertEqual({surplus for surplus in told[1].values()}, {(0, ""), (1, "b")})
        third = ("many", "ab", "ab", "ba", "ab", ("names", ("",)))
        self.assertEqual(self.right(sort, one, third, [()] + [(0,) * many for many in range(9)], False)[0], "unlike")

    def test_formats_of_all_kinds(self):
        rng = random.Random(61)
        found = {"alike": 0, "unlike": 0}
        while min(found.values()) < 40:
            sort, one = some_pair(rng, False, rng.choice((1, 2, 3)))
            if how_many_values(sort) > 200:
                continue
            other = rng.choice((one, spelled_alike(rng, sort, one), ("pad", rng.randint(0, 3), "0", ">", one)))
            if not is_format(sort, other) or not do_spell_alike(sort, one, other):
                continue
            with self.subTest((sort, one, other)):
                try:
                    found[self.right(sort, one, other, all_values(sort), True)[0]] += 1
                except TooLarge:
                    pass

    def test_endless_many_values(self):
        rng = random.Random(62)
        for _ in range(80):
            sort, one = some_pair(rng, True, rng.choice((1, 2, 3)))
            other = spelled_alike(rng, sort, one)
            if is_format(sort, other) and do_spell_alike(sort, one, other):
                with self.subTest((sort, one, other)):
                    try:
                        self.right(sort, one, other, some_values(rng, sort, 100), False)
                    except TooLarge:
                        pass

    def test_equal_answers(self):
        told = compared(DIGITS, PADDED, TWO)
        kept = dict(told[1])
        told[1].clear()
        self.assertEqual(compared(DIGITS, PADDED, TWO), ("alike", kept))


class Judges(unittest.TestCase):
    def test_what_shows_that_they_are_alike(self):
        rng = random.Random(63)
        answers = {True: 0, False: 0}
        for sort, one, other in (
                (DIGITS, PADDED, TWO), (("int", -9, 99), PADDED, TWO), (("one", 1), ("names", ("ab",)), ("names", ("a",))),
                (("one", 2), ("names", ("a", "b")), ("names", ("a", "b"))), (WORD, ("plain",), ("spelled", (("a", "a"),))),
                (("many", ("one", 1), 0, None), ("many", "ab", "ab", "ab", "ab", ("names", ("",))),
                 ("many", "ab", "a", "ba", "bab", ("names", ("",))))):
            machine, other_machine = machine_of(sort, one), machine_of(sort, other)
            told = compared(sort, one, other)
            table = told[1] if told[0] == "alike" else {pair: (0, "") for pair in links(machine, other_machine)}

            def some_key(source):
                return (source.randrange(len(machine)), source.randrange(len(other_machine)))

            def some_surplus(source):
                return source.choice(((0, ""), (1, "b"), (2, "b"), (1, "a"), (0, "a"), (1, ""), (2, ""), (3, "a"), (True, "b"),
                                      (False, ""), [0, ""], None, (0,), (0, "", ""), (1, ("b",)), "", (1, 1), (0, None), 0))
            for thing in changed_dicts(rng, table, some_key, some_surplus, 150):
                answer = shows_alike(sort, one, other, thing)
                self.assertIs(answer, alike_by_the_words(machine, other_machine, thing), thing)
                answers[answer] += 1
        self.assertGreater(min(answers.values()), 50)

    def test_things_that_show_nothing(self):
        table = compared(DIGITS, PADDED, TWO)[1]
        self.assertIs(shows_alike(DIGITS, PADDED, TWO, table), True)
        self.assertIs(shows_alike(DIGITS, PADDED, TWO, truths_for_integers(table)), False)
        for thing in list(ODD_THINGS) + list(lists_for_tuples(table)) + [tuple(table)]:
            with self.subTest(repr(thing)):
                self.assertIs(shows_alike(DIGITS, PADDED, TWO, thing), False)

    def test_keys_that_are_truth_values(self):
        sort, one = ("one", 1), ("names", ("",))
        self.assertEqual(compared(sort, one, one), ("alike", {(0, 0): (0, ""), (1, 1): (0, "")}))
        self.assertIs(shows_alike(sort, one, one, {(0, 0): (0, ""), (1, 1): (0, "")}), True)
        self.assertIs(shows_alike(sort, one, one, {(1, 1): (0, ""), (0, 0): (0, "")}), True)
        for thing in ({(0, 0): (0, ""), (True, 1): (0, "")}, {(0, False): (0, ""), (1, 1): (0, "")},
                      {(0, 0): (0, ""), (1, 1): (False, "")}, {(0, 0): (0, "")}, {(1, 1): (0, "")}, {},
                      {(0, 0): (0, ""), (1, 1): (0, ""), (0, 1): (0, "")}):
            with self.subTest(thing):
                self.assertIs(shows_alike(sort, one, one, thing), False)

    def test_what_shows_that_they_are_unlike(self):
        sort = ("int", -9, 99)
        self.assertIs(shows_unlike(sort, PADDED, TWO, -9), True)
        self.assertIs(shows_unlike(sort, PADDED, PADDED, -9), False)
        for thing in (-10, 3, 100, None, "-3", -3.0, True, False, (-3,), [-3]):
            with self.subTest(repr(thing)):
                self.assertIs(shows_unlike(sort, PADDED, TWO, thing), False)
        self.assertIs(shows_unlike(("int", 0, 1), FIGURES, TWO, 1), True)
        self.assertIs(shows_unlike(("int", 0, 1), FIGURES, TWO, True), False)


class Errors(unittest.TestCase):
    def test_formats_that_do_not_spell_alike(self):
        for one, other in ((FIGURES, BITS), (HUGE, BITS), (BITS, HUGE)):
            for call in (lambda: compared(INT, one, other), lambda: shows_alike(INT, one, other, {}),
                         lambda: shows_unlike(INT, one, other, 3)):
                with self.assertRaises(BadPair) as caught:
                    call()
                self.assertTrue(hasattr(caught.exception, "why"))

    def test_too_large(self):
        for one, other in ((FIGURES, HUGE), (HUGE, FIGURES), (HUGE, HUGE)):
            for call in (lambda: compared(INT, one, other), lambda: shows_alike(INT, one, other, None)):
                with self.assertRaises(TooLarge) as caught:
                    call()
                self.assertEqual(caught.exception.most, 500)
            self.assertIs(shows_unlike(INT, one, other, 12), True if one != other else False)
            self.assertIs(do_spell_alike(INT, one, other), True)
        self.assertIs(shows_unlike(BOUNDED, HUGE, FIGURES, -1), True)


if __name__ == "__main__":
    unittest.main()
