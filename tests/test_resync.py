"""[21] Readers from anywhere."""

import random
import unittest
from unittest import mock

from readagain.emptiness import can_be_empty
from readagain.errors import BadFormat, TooLarge
from readagain.machines import machine_of
from readagain.resync import lot_steps, resync, shows_lost, shows_settled
from readagain.sorts import how_many_values
from readagain.writing import write
from tests.making import DIGITS, FIGURES, INT, PRICE, TIGHT, TWO, WORD, all_values, some_pair
from tests.reckoning import END, ODD_THINGS, changed_dicts, is_whole, lists_for_tuples, raised_numbers, truths_for_integers
from tests.test_machines import ENDLESS

HUGE = ("checked", 16, 5, FIGURES)
ONE = ("one", 2)
SETTLED = ("names", ("a;", "bb;"))
WORDS = ("word", "ab", 0, None)
QUOTED = ("quoted", "'", "!")


def gone_along(machine, place):
    """All places to which marks lead from a place, itself too."""
    found = {place}
    while True:
        more = found | {behind for at in found if machine[at][0] == "marks" for _, behind in machine[at][1]}
        if more == found:
            return found
        found = more


def lots_told(machine, lot):
    """The dict of signs to the lots behind a lot, word for word."""
    found = {}
    places = set(lot)
    if any(machine[place] == END for place in lot):
        places |= gone_along(machine, 0)
    for place in places:
        if machine[place][0] == "sign":
            _, sign, behind = machine[place]
            found.setdefault(sign, set()).update(at for at in gone_along(machine, behind) if machine[at][0] != "marks")
    return {sign: tuple(sorted(found[sign])) for sign in sorted(found)}


def first_told(machine):
    return tuple(place for place in range(len(machine)) if machine[place][0] == "sign")


def is_settled(machine, lot):
    return bool(lot) and all(machine[place] == END for place in lot)


def unsettled(machine, most):
    """All lots that aren't settled and are come to by such, None for more than so many."""
    found, waiting = {}, [first_told(machine)]
    while waiting:
        lot = waiting.pop()
        if lot not in found:
            found[lot] = [behind for behind in lots_told(machine, lot).values() if not is_settled(machine, behind)]
            waiting += found[lot]
            if len(found) > most:
                return None
    return found


def settled_by_the_words(machine, n, thing):
    if not is_whole(n) or type(thing) is not dict or not all(is_whole(many) for many in thing.values()):
        return False
    for lot in thing:
        if type(lot) is not tuple or not all(type(place) is int and 0 <= place < len(machine) for place in lot):
            return False
        if list(lot) != sorted(set(lot)) or any(machine[place][0] == "marks" for place in lot):
            return False
    if first_told(machine) not in thing or thing[first_told(machine)] > n:
        return False
    for lot, many in thing.items():
        for behind in lots_told(machine, lot).values():
            if many == 0 or not (is_settled(machine, behind) or behind in thing and thing[behind] < many):
                return False
    return True


def lost_by_the_words(machine, front, loop):
    if type(front) is not str or type(loop) is not str or loop == "":
        return False
    lot, lots = first_told(machine), []
    for sign in front + loop:
        lots.append(lot)
        lot = lots_told(machine, lot).get(sign)
        if lot is None or is_settled(machine, lot):
            return False
    return (lots + [lot])[len(front)] == lot


def signs_by_texts(texts):
    """How many signs a reader of rows of texts must see; None for lost. States are what may be left of a text."""
    done = {}

    def greatest(state, ahead):
        if state in ahead:
            return None
        if state not in done:
            rests = set(state)
            if "" in rests:
                rests |= set(texts)
            found = []
            for sign in {rest[0] for rest in rests if rest}:
                behind = frozenset(rest[1:] for rest in rests if rest[:1] == sign)
                more = 0 if behind == {""} else greatest(behind, ahead | {state})
                if more is None:
                    return None
                found.append(more + 1)
            done[state] = max(found)
        return done[state]
    return greatest(frozenset(text[at:] for text in texts for at in range(len(text))), frozenset())


class Lots(unittest.TestCase):
    def test_what_follows(self):
        machine = machine_of(ONE, SETTLED)
        self.assertEqual(machine[1:], (("sign", "a", 3), ("sign", "b", 4), ("sign", ";", 5), ("sign", "b", 3), ("end",)))
        self.assertEqual(lot_steps(machine, (1, 2, 3, 4)), [(";", (5,)), ("a", (3,)), ("b", (3, 4))])
        self.assertEqual(lot_steps(machine, (5,)), [("a", (3,)), ("b", (4,))])
        self.assertEqual(lot_steps(machine, (3, 5)), [(";", (5,)), ("a", (3,)), ("b", (4,))])
        self.assertEqual(lot_steps(machine, ()), [])

    def test_behind_an_end_where_place_0_is_ahead_of_a_sign(self):
        machine = machine_of(WORDS, QUOTED)
        self.assertEqual(machine[0][:2], ("sign", "'"))
        end = machine.index(END)
        self.assertEqual(lot_steps(machine, (end,)), [("'", lots_told(machine, (0,))["'"])])

    def test_lots_of_all_kinds(self):
        rng = random.Random(121)
        for sort, format in ENDLESS[:20]:
            machine = machine_of(sort, format)
            places = [place for place in range(len(machine)) if machine[place][0] != "marks"]
            for _ in range(30):
                lot = tuple(sorted(rng.sample(places, rng.randint(0, min(len(places), 6)))))
                self.assertEqual(lot_steps(machine, lot), list(lots_told(machine, lot).items()))


class Resync(unittest.TestCase):
    def right(self, sort, format, texts):
        machine = machine_of(sort, format)
        lots = unsettled(machine, 1000)
        if lots is None:
            with self.assertRaises(TooLarge) as caught:
                resync(sort, format)
            self.assertEqual(caught.exception.most, 1000)
            return "large"
        told = resync(sort, format)
        if told[0] == "settled":
            _, n, table = told
            self.assertEqual(set(table), set(lots))
            self.assertEqual(n, table[first_told(machine)])
            for lot, many in table.items():
                self.assertEqual(many, 1 + max([table[behind] for behind in lots[lot]], default=0))
            self.assertTrue(settled_by_the_words(machine, n, table))
            self.assertIs(shows_settled(machine, n, table), True)
            self.assertIs(shows_settled(machine, n - 1, table), False)
        else:
            self.assertEqual((told[0], len(told)), ("lost", 3))
            self.assertTrue(lost_by_the_words(machine, told[1], told[2]))
            self.assertIs(shows_lost(machine, told[1], told[2]), True)
            self.assertIs(shows_settled(machine, 1000, {lot: 1000 for lot in lots}), False)
        if texts is not None:
            self.assertEqual(told[1] if told[0] == "settled" else None, signs_by_texts(texts))
        return told[0]

    def test_examples(self):
        self.assertEqual((resync(WORDS, QUOTED)[0], resync(ONE, SETTLED)[:2]), ("lost", ("settled", 3)))

    def test_of_two_names(self):
        self.assertEqual(resync(ONE, SETTLED), ("settled", 3, {(1, 2, 3, 4): 3, (3, 4): 2, (3,): 1}))
        self.assertEqual(resync(("one", 1), ("names", ("a",))), ("settled", 1, {(1,): 1}))
        self.assertEqual(resync(("one", 1), ("names", ("aa",)))[0], "lost")

    def test_names(self):
        rng = random.Random(122)
        found = {}
        for _ in range(300):
            texts = tuple("".join(rng.choice("abc") for _ in range(rng.randint(1, 5))) + rng.choice(("", ";", ";"))
                          for _ in range(rng.choice((1, 2, 3))))
            with self.subTest(texts):
                word = self.right(("one", len(texts)), ("names", texts), texts)
                found[word] = found.get(word, 0) + 1
        self.assertGreater(min(found.values()), 15)
        self.assertEqual(sorted(found), ["lost", "settled"])

    def test_formats_of_all_kinds(self):
        rng = random.Random(123)
        tried = 0
        while tried < 80:
            sort, format = some_pair(rng, False, rng.choice((1, 2, 3)))
            if how_many_values(sort) <= 40 and not can_be_empty(sort, format):
                tried += 1
                with self.subTest((sort, format)):
                    try:
                        self.right(sort, format, [write(sort, format, value) for value in all_values(sort)])
                    except TooLarge:
                        pass

    def test_endless_many_values(self):
        pairs = [(sort, format) for sort, format in ENDLESS if not can_be_empty(sort, format)]
        for sort, format in pairs:
            if len(machine_of(sort, format)) < 120:
                with self.subTest((sort, format)):
                    self.right(sort, format, None)
        word = ("word", "ab", 0, None)
        for sort, format, told in (
                (("row", (word,)), ("row", ((0, ("plain",)), ";")), "lost"),
                (("row", (("word", "ab", 0, 3),)), ("row", ((0, ("plain",)), ";")), "settled"),
                (DIGITS, TWO, "lost"), (PRICE, TIGHT, "lost"), (("one", 2), ("names", ("ab", "ba")), "lost"),
                (("one", 2), ("names", ("ab", "bc")), "settled")):
            with self.subTest((sort, format)):
                self.assertEqual(self.right(sort, format, None), told)

    def test_too_many_lots(self):
        sort = ("row", (("word", "ab", 11, 11),))
        format = ("row", ("a", (0, ("plain",))))
        self.assertEqual(self.right(sort, format, None), "large")
        for sort, format in ((ONE, SETTLED), (WORDS, QUOTED)):
            many = len(unsettled(machine_of(sort, format), 1000))
            with mock.patch("readagain.resync.MOST_LOTS", many):
                resync(sort, format)
            with mock.patch("readagain.resync.MOST_LOTS", many - 1), self.assertRaises(TooLarge):
                resync(sort, format)

    def test_equal_answers(self):
        told = resync(ONE, SETTLED)
        told[2].clear()
        self.assertEqual(resync(ONE, SETTLED), ("settled", 3, {(1, 2, 3, 4): 3, (3, 4): 2, (3,): 1}))


class Judges(unittest.TestCase):
    def test_what_shows_that_it_is_settled(self):
        rng = random.Random(125)
        answers = {True: 0, False: 0}
        for sort, format in ((ONE, SETTLED), (ONE, ("names", ("ab", "bc"))), (ONE, ("names", ("ab", "ba"))), (("one", 1), ("names", ("a",))),
                             (("row", (("word", "ab", 0, 2),)), ("row", ((0, ("plain",)), ";")))):
            machine = machine_of(sort, format)
            told = resync(sort, format)
            table = told[2] if told[0] == "settled" else {lot: 5 for lot in unsettled(machine, 1000)}
            n = table[first_told(machine)]

            def some_key(source):
                places = source.sample(range(len(machine)), source.randint(0, min(3, len(machine))))
                return tuple(sorted(places) if source.random() < 0.8 else places)

            def some_number(source):
                return source.choice((0, 1, 1, 2, 2, 3, 4, True, None, -1, "1"))
            things = list(changed_dicts(rng, table, some_key, some_number, 120)) + list(raised_numbers(rng, table, 60))
            for thing in things:
                signs = rng.choice((n, n, n + 1, n + 2, n - 1))
                answer = shows_settled(machine, signs, thing)
                self.assertIs(answer, settled_by_the_words(machine, signs, thing), (signs, thing))
                answers[answer] += 1
        self.assertGreater(min(answers.values()), 60)

    def test_what_else_shows_it(self):
        machine = machine_of(ONE, SETTLED)
        table = resync(ONE, SETTLED)[2]
        self.assertIs(shows_settled(machine, 4, table), True)
        self.assertIs(shows_settled(machine, 8, {lot: many * 2 + 2 for lot, many in table.items()}), True)
        self.assertIs(shows_settled(machine, 3, {**table, (): 0}), True)
        self.assertIs(shows_settled(machine, 3, {**table, (5,): 4, (4,): 2}), True)
        self.assertIs(shows_settled(machine, 3, {**table, (5,): 2}), False)
        self.assertIs(shows_settled(machine, 3, {**table, (3,): 0}), False)
        self.assertIs(shows_settled(machine, 3, {**table, (3, 4): 3}), False)

    def test_things_that_show_nothing(self):
        machine = machine_of(ONE, SETTLED)
        table = resync(ONE, SETTLED)[2]
        self.assertIs(shows_settled(machine, 3, table), True)
        self.assertIs(shows_settled(machine, 3, truths_for_integers(table)), False)
        for lot in table:
            self.assertIs(shows_settled(machine, 3, {other: many for other, many in table.items() if other != lot}), False)
        for thing in list(ODD_THINGS) + list(lists_for_tuples(table)) + [
                tuple(table), {**table, (0,): 9}, {**table, (4, 3): 9}, {**table, (3, 3): 9}, {**table, (6,): 9}, {**table, (-1,): 9},
                {**table, 3: 9}, {**table, "3": 9}, {**table, (True,): 9}, {**table, None: 9}, {**table, (1.5,): 9},
                {True if part == 1 else part: many for part, many in table.items()} | {(True, 2, 3, 4): 3},
                {(True, 2, 3, 4): 3, (3, 4): 2, (3,): 1}]:
            with self.subTest(repr(thing)):
                self.assertIs(shows_settled(machine, 3, thing), settled_by_the_words(machine, 3, thing))
        for n in (True, None, "3", 3.0, -1, (3,), [3]):
            self.assertIs(shows_settled(machine, n, table), False)
        single = machine_of(("one", 1), ("names", ("a",)))
        self.assertIs(shows_settled(single, 1, {(1,): 1}), True)
        for n, thing in ((True, {(1,): 1}), (1, {(1,): True}), (1, {(True,): 1}), (1, {(1,): 1.0}), (1, {(1,): 0}), (0, {(1,): 1})):
            self.assertIs(shows_settled(single, n, thing), False)

    def test_what_shows_that_it_is_lost(self):
        rng = random.Random(126)
        answers = {True: 0, False: 0}
        for sort, format, signs in ((WORDS, QUOTED, "'ab"), (ONE, ("names", ("ab", "ba")), "ab"), (ONE, SETTLED, "ab;"),
                                    (("one", 3), ("names", ("ab", "bca", "ca")), "abc")):
            machine = machine_of(sort, format)
            for _ in range(150):
                front = "".join(rng.choice(signs) for _ in range(rng.randint(0, 4)))
                loop = "".join(rng.choice(signs) for _ in range(rng.randint(0, 4)))
                answer = shows_lost(machine, front, loop)
                self.assertIs(answer, lost_by_the_words(machine, front, loop), (front, loop))
                answers[answer] += 1
        self.assertGreater(min(answers.values()), 5)

    def test_texts_that_show_nothing(self):
        machine = machine_of(WORDS, QUOTED)
        _, front, loop = resync(WORDS, QUOTED)
        self.assertIs(shows_lost(machine, front, loop), True)
        self.assertIs(shows_lost(machine, front + loop, loop * 3), True)
        self.assertIs(shows_lost(machine, front, ""), False)
        self.assertIs(shows_lost(machine, front, "!"), False)
        self.assertIs(shows_lost(machine, front, "x"), False)
        self.assertIs(shows_lost(machine, "x", loop), False)
        for thing in (None, 0, 1, True, ("'",), ["'"], {"'": 1}, b"'", ()):
            with self.subTest(repr(thing)):
                self.assertIs(shows_lost(machine, thing, loop), False)
                self.assertIs(shows_lost(machine, front, thing), False)
        self.assertIs(shows_lost(machine_of(ONE, SETTLED), "b", "b"), False)


class Errors(unittest.TestCase):
    def test_empty_texts(self):
        for sort, format in ((WORD, ("plain",)), (("one", 2), ("names", ("", "a"))), (INT, ("skip",)), (("row", ()), ("row", ()))):
            with self.assertRaises(BadFormat) as caught:
                resync(sort, format)
            self.assertEqual(caught.exception.thing, format)

    def test_too_large(self):
        for sort, format in ((INT, HUGE), (("maybe", INT), ("maybe", "", HUGE))):
            with self.assertRaises(TooLarge) as caught:
                resync(sort, format)
            self.assertEqual(caught.exception.most, 500)


if __name__ == "__main__":
    unittest.main()
