"""[22] Slips, [23] exchanged neighbours."""

import random
import unittest

from readagain.errors import TooLarge
from readagain.machines import machine_of
from readagain.slips import are_swapped, differ_in, keeps_swaps_out, rules_out_fewer, slips, swaps
from readagain.sorts import how_many_values
from readagain.writing import write
from tests.making import DIGITS, FIGURES, INT, LOOSE, PADDED, PRICE, TIGHT, TWO, WORD, all_values, some_pair, some_values
from tests.reckoning import (
    END, ODD_THINGS, all_come_to, are_ends, changed_dicts, changed_tuples, first_told, is_pair_of, is_whole, lists_for_tuples,
    raised_numbers, truths_for_integers)
from tests.test_machines import ENDLESS, FINITE

HUGE = ("checked", 16, 5, FIGURES)
CHECKED = ("checked", 11, 3, TWO)
ONE = ("one", 2)


def unlike_signs(text, other):
    return sum(one != two for one, two in zip(text, other))


def slip_steps(machine, pair):
    """What follows a pair, unlike signs together, too: the list of (pair behind, cost)."""
    row, other = machine[pair[0]], machine[pair[1]]
    if row[0] == "marks":
        return [((place, pair[1]), 0) for _, place in row[1]]
    if other[0] == "marks":
        return [((pair[0], place), 0) for _, place in other[1]]
    if row[0] == other[0] == "sign":
        return [((row[2], other[2]), int(row[1] != other[1]))]
    return []


def slip_pairs(machine):
    return all_come_to(first_told(machine), lambda pair: [behind for behind, _ in slip_steps(machine, pair)])


def costs_told(machine):
    """The dict of all pairs to the least costs to two ends: made less step by step as long as one can be."""
    costs = {pair: 0 if are_ends(machine, machine, pair) else None for pair in slip_pairs(machine)}
    changed = True
    while changed:
        changed = False
        for pair in costs:
            for behind, cost in slip_steps(machine, pair):
                if costs[behind] is not None and (costs[pair] is None or costs[behind] + cost < costs[pair]):
                    costs[pair] = costs[behind] + cost
                    changed = True
    return costs


def fewer_by_the_words(machine, n, thing):
    if not (n is None or is_whole(n)) or type(thing) is not dict:
        return False
    if not all(is_pair_of(machine, machine, pair) and (many is None or is_whole(many)) for pair, many in thing.items()):
        return False

    def number(many):
        return float("inf") if many is None else many
    if not all(pair in thing and number(thing[pair]) >= number(n) for pair in first_told(machine)):
        return False
    for pair, many in thing.items():
        if are_ends(machine, machine, pair) and many != 0:
            return False
        for behind, cost in slip_steps(machine, pair):
            if behind not in thing or number(many) > cost + number(thing[behind]):
                return False
    return True


class Slips(unittest.TestCase):
    def right(self, sort, format, values, known):
        told = slips(sort, format)
        machine = machine_of(sort, format)
        rows = {}
        for value in values:
            text = write(sort, format, value)
            rows.setdefault(len(text), []).append(text)
        least = min([unlike_signs(one, other) for row in rows.values() for at, one in enumerate(row) for other in row[at + 1:]],
                    default=None)
        table = told[-1]
        if len(table) < 3000:
            self.assertEqual(table, costs_told(machine))
        self.assertEqual(list(table), sorted(table))
        if told[0] == "slips":
            _, n, one, other, _ = told
            self.assertEqual(len(told), 5)
            self.assertEqual(differ_in(sort, format, one, other), n)
            self.assertEqual(unlike_signs(write(sort, format, one), write(sort, format, other)), n)
            self.assertNotEqual(one, other)
            if known:
                self.assertEqual(n, least)
            elif least is not None:
                self.assertLessEqual(n, least)
            self.assertIs(rules_out_fewer(machine, n + 1, table), False)
            self.assertIs(rules_out_fewer(machine, None, table), False)
        else:
            self.assertEqual((told[0], len(told), least), ("never", 2, None))
            n = None
        self.assertIs(rules_out_fewer(machine, n, table), True)
        self.assertIs(rules_out_fewer(machine, 0, table), True)
        return told[0]

    def test_examples(self):
        self.assertEqual((slips(DIGITS, TWO)[1], slips(DIGITS, CHECKED)[1]), (1, 2))

    def test_of_two_names(self):
        self.assertEqual(slips(ONE, ("names", ("ab", "cd"))), ("slips", 2, 0, 1, {(1, 2): 2, (3, 4): 1, (5, 5): 0}))
        self.assertEqual(slips(ONE, ("names", ("ab", "c"))), ("never", {(1, 2): None, (3, 4): None}))
        self.assertEqual(slips(ONE, ("names", ("a", "a"))), ("slips", 0, 0, 1, {(1, 1): 0, (2, 2): 0}))
        self.assertEqual(slips(("one", 1), ("names", ("a",))), ("never", {}))
        self.assertEqual(slips(("row", ()), ("row", ())), ("never", {}))

    def test_finitely_many_values(self):
        rng = random.Random(131)
        found = {"slips": 0, "never": 0}
        for sort, format in FINITE:
            if how_many_values(sort) < 500:
                with self.subTest((sort, format)):
                    self.right(sort, format, all_values(sort), True)
        while sum(found.values()) < 100 or min(found.values()) < 10:
            sort, format = some_pair(rng, False, rng.choice((1, 2, 3)))
            if how_many_values(sort) <= 150:
                with self.subTest((sort, format)):
                    try:
                        found[self.right(sort, format, all_values(sort), True)] += 1
                    except TooLarge:
                        pass

    def test_endless_many_values(self):
        rng = random.Random(132)
        for sort, format in ENDLESS + [some_pair(rng, True, 2) for _ in range(30)]:
            with self.subTest((sort, format)):
                try:
                    if len(machine_of(sort, format)) < 150:
                        self.right(sort, format, some_values(rng, sort, 60), False)
                except TooLarge:
                    pass

    def test_some_known_ones(self):
        bits = ("names", ("000000", "111000", "000111", "111111"))
        for sort, format, told in (
                (INT, FIGURES, 1), (PRICE, LOOSE, 0), (PRICE, TIGHT, 1), (("one", 4), bits, 3), (("one", 2), ("names", ("aaaaaaaa", "bbbbbbbb")), 8),
                (("word", "a", 0, None), ("plain",), None), (("word", "a", 0, None), ("pad", 8, "b", "<", ("plain",)), 1),
                (("word", "ab", 2, 2), ("spelled", (("a", "abc"), ("b", "bca"))), 3), (("int", 0, 9), ("checked", 11, 3, FIGURES), 2)):
            with self.subTest((sort, format)):
                answer = slips(sort, format)
                self.assertEqual(answer[1] if answer[0] == "slips" else None, told)

    def test_equal_answers(self):
        told = slips(DIGITS, TWO)
        kept = dict(told[4])
        told[4].clear()
        self.assertEqual(slips(DIGITS, TWO)[4], kept)

    def test_too_large(self):
        for call in (slips, swaps):
            with self.assertRaises(TooLarge) as caught:
                call(INT, HUGE)
            self.assertEqual(caught.exception.most, 500)


class SlipJudges(unittest.TestCase):
    def test_what_rules_out_fewer(self):
        rng = random.Random(133)
        answers = {True: 0, False: 0}
        for sort, format in ((ONE, ("names", ("ab", "cd"))), (ONE, ("names", ("ab", "c"))), (ONE, ("names", ("a", "a"))),
                             (("one", 3), ("names", ("abc", "bca", "c"))), (("int", 0, 5), TWO), (WORD, ("plain",))):
            machine = machine_of(sort, format)
            told = slips(sort, format)
            n = told[1] if told[0] == "slips" else None

            def some_key(source):
                return (source.randrange(len(machine)), source.randrange(len(machine)))

            def some_number(source):
                return source.choice((0, 0, 1, 1, 2, 3, None, None, True, -1, "1", 1.0))
            things = list(changed_dicts(rng, told[-1], some_key, some_number, 100)) + list(raised_numbers(rng, told[-1], 20))
            things += [{pair: many if many is None else max(0, many - 1) for pair, many in told[-1].items()}]
            for thing in things:
                fewer = rng.choice((n, n, 0, 1, 2, None))
                answer = rules_out_fewer(machine, fewer, thing)
                self.assertIs(answer, fewer_by_the_words(machine, fewer, thing), (fewer, thing))
                answers[answer] += 1
        self.assertGreater(min(answers.values()), 100)

    def test_things_that_show_nothing(self):
        sort, format = ONE, ("names", ("ab", "cd"))
        machine = machine_of(sort, format)
        table = slips(sort, format)[4]
        self.assertIs(rules_out_fewer(machine, 2, table), True)
        self.assertIs(rules_out_fewer(machine, 1, {(1, 2): 1, (3, 4): 1, (5, 5): 0}), True)
        self.assertIs(rules_out_fewer(machine, 2, {(1, 2): 2, (3, 4): 1, (5, 5): 0, (2, 3): None}), False)
        self.assertIs(rules_out_fewer(machine, 2, {(1, 2): 2, (3, 4): 1, (5, 5): 0, (2, 5): None}), True)
        self.assertIs(rules_out_fewer(machine, 2, {(1, 2): 2, (3, 4): 1, (5, 5): None}), False)
        self.assertIs(rules_out_fewer(machine, 2, {(1, 2): None, (3, 4): 1, (5, 5): 0}), False)
        self.assertIs(rules_out_fewer(machine, 3, {(1, 2): 3, (3, 4): 2, (5, 5): 1}), False)
        self.assertIs(rules_out_fewer(machine, 2, truths_for_integers(table)), False)
        for pair in table:
            self.assertIs(rules_out_fewer(machine, 2, {other: many for other, many in table.items() if other != pair}), False)
        for thing in list(ODD_THINGS) + list(lists_for_tuples(table)) + [tuple(table), {**table, (9, 9): 0}, {**table, (1, 2, 3): 0}]:
            with self.subTest(repr(thing)):
                self.assertIs(rules_out_fewer(machine, 2, thing), False)
        for n in (True, -1, "2", 2.0, (2,)):
            with self.subTest(repr(n)):
                self.assertIs(rules_out_fewer(machine, n, table), False)
        never = machine_of(ONE, ("names", ("ab", "c")))
        self.assertIs(rules_out_fewer(never, None, {(1, 2): None, (3, 4): None}), True)
        self.assertIs(rules_out_fewer(never, 7, {(1, 2): 7, (3, 4): 6}), True)
        self.assertIs(rules_out_fewer(never, None, {(1, 2): 7, (3, 4): None}), False)
        self.assertIs(rules_out_fewer(machine_of(("one", 1), ("names", ("a",))), None, {}), True)

    def test_in_how_many_signs_texts_differ(self):
        self.assertEqual(differ_in(INT, FIGURES, 123, 173), 1)
        self.assertEqual(differ_in(INT, FIGURES, 123, -23), 1)
        self.assertEqual(differ_in(INT, HUGE, 11, 12), 2)
        self.assertEqual(differ_in(PRICE, LOOSE, (1, 23), (12, 3)), 0)
        for one, other in ((1, 12), (1, 1), (True, 0), (0, True), (None, 1), (1, None), ("1", 2), (1.0, 2), ([], {})):
            with self.subTest((one, other)):
                self.assertIsNone(differ_in(INT, FIGURES, one, other))


def node_steps(machine, node):
    """What follows a node, word for word."""
    (one, two), state = node
    row, other = machine[one], machine[two]
    if row[0] == "marks":
        return [((place, two), state) for _, place in row[1]]
    if other[0] == "marks":
        return [((one, place), state) for _, place in other[1]]
    if row[0] == END[0] or other[0] == END[0]:
        return []
    _, sign, behind = row
    _, other_sign, other_behind = other
    pair = (behind, other_behind)
    if sign == other_sign:
        return [(pair, state)] if state in ("", "done") else []
    if state == "":
        return [(pair, sign + other_sign)]
    return [(pair, "done")] if state == other_sign + sign else []


def all_nodes(machine):
    return tuple(sorted(all_come_to([((0, 0), "")], lambda node: node_steps(machine, node))))


def safe_by_the_words(machine, thing):
    if type(thing) is not tuple:
        return False
    for node in thing:
        if type(node) is not tuple or len(node) != 2 or not is_pair_of(machine, machine, node[0]) or type(node[1]) is not str:
            return False
        if node[1] not in ("", "done") and (len(node[1]) != 2 or node[1][0] == node[1][1]):
            return False
    return (((0, 0), "") in thing and all(behind in thing for node in thing for behind in node_steps(machine, node))
            and not any(node[1] == "done" and are_ends(machine, machine, node[0]) for node in thing))


def by_exchange(text, other):
    """Whether an exchange of two unlike neighbours makes the one text the other one."""
    return text != other and any(text[:at] + text[at + 1] + text[at] + text[at + 2:] == other for at in range(len(text) - 1))


class Swaps(unittest.TestCase):
    def right(self, sort, format, values, known):
        told = swaps(sort, format)
        machine = machine_of(sort, format)
        texts = {write(sort, format, value) for value in values}
        found = [text for text in texts for at in range(len(text) - 1)
                 if text[at] != text[at + 1] and text[:at] + text[at + 1] + text[at] + text[at + 2:] in texts]
        if told[0] == "safe":
            self.assertEqual(found, [])
            self.assertEqual(len(told), 2)
            if len(told[1]) < 20000:
                self.assertEqual(told[1], all_nodes(machine))
            self.assertIs(keeps_swaps_out(machine, told[1]), True)
        else:
            self.assertEqual((told[0], len(told)), ("swapped", 3))
            self.assertTrue(found or not known)
            self.assertTrue(by_exchange(write(sort, format, told[1]), write(sort, format, told[2])))
            self.assertIs(are_swapped(sort, format, told[1], told[2]), True)
            if len(machine) < 60:
                self.assertIs(keeps_swaps_out(machine, all_nodes(machine)), False)
        return told[0]

    def test_examples(self):
        self.assertEqual((swaps(DIGITS, TWO)[0], swaps(DIGITS, CHECKED)[0]), ("swapped", "safe"))

    def test_of_two_names(self):
        self.assertEqual(swaps(("one", 1), ("names", ("ab",))),
                         ("safe", (((0, 0), ""), ((1, 0), ""), ((1, 1), ""), ((2, 2), ""), ((3, 3), ""))))
        self.assertIn(swaps(ONE, ("names", ("ab", "ba"))), [("swapped", 0, 1), ("swapped", 1, 0)])
        self.assertEqual(swaps(ONE, ("names", ("ab", "ab")))[0], "safe")
        self.assertEqual(swaps(ONE, ("names", ("abc", "cba")))[0], "safe")
        self.assertEqual(swaps(ONE, ("names", ("xaby", "xbay")))[0], "swapped")
        self.assertEqual(swaps(ONE, ("names", ("abab", "baba")))[0], "safe")
        self.assertEqual(swaps(ONE, ("names", ("aabb", "abab")))[0], "swapped")
        self.assertEqual(swaps(ONE, ("names", ("ab", "ca")))[0], "safe")

    def test_finitely_many_values(self):
        rng = random.Random(134)
        found = {"safe": 0, "swapped": 0}
        for sort, format in FINITE:
            with self.subTest((sort, format)):
                self.right(sort, format, all_values(sort), True)
        while sum(found.values()) < 120 or min(found.values()) < 40:
            sort, format = some_pair(rng, False, rng.choice((1, 2, 3)))
            if how_many_values(sort) <= 300:
                with self.subTest((sort, format)):
                    try:
                        found[self.right(sort, format, all_values(sort), True)] += 1
                    except TooLarge:
                        pass

    def test_endless_many_values(self):
        rng = random.Random(135)
        for sort, format in ENDLESS:
            if len(machine_of(sort, format)) < 150:
                with self.subTest((sort, format)):
                    self.right(sort, format, some_values(rng, sort, 100), False)

    def test_equal_answers(self):
        self.assertEqual(swaps(DIGITS, CHECKED), swaps(DIGITS, CHECKED))


class SwapJudges(unittest.TestCase):
    def test_what_keeps_swaps_out(self):
        rng = random.Random(136)
        answers = {True: 0, False: 0}
        for sort, format in ((ONE, ("names", ("ab", "ba"))), (ONE, ("names", ("ab", "bc"))), (("one", 1), ("names", ("ab",))),
                             (("int", 0, 3), FIGURES), (ONE, ("names", ("abc", "cba")))):
            machine = machine_of(sort, format)
            nodes = list(all_nodes(machine))

            def some_key(source):
                state = source.choice(("", "", "done", "ab", "ba", "bc", "cb", "aa", "a", "abc", None, 0))
                return ((source.randrange(len(machine)), source.randrange(len(machine))), state)
            for thing in changed_tuples(rng, nodes, some_key, 150):
                answer = keeps_swaps_out(machine, thing)
                self.assertIs(answer, safe_by_the_words(machine, thing), thing)
                answers[answer] += 1
        self.assertGreater(min(answers.values()), 60)

    def test_things_that_show_nothing(self):
        machine = machine_of(ONE, ("names", ("ab", "bc")))
        told = swaps(ONE, ("names", ("ab", "bc")))[1]
        self.assertIs(keeps_swaps_out(machine, told), True)
        self.assertIs(keeps_swaps_out(machine, told[::-1] + told), True)
        self.assertIs(keeps_swaps_out(machine, truths_for_integers(told)), False)
        for at in range(len(told)):
            self.assertIs(keeps_swaps_out(machine, told[:at] + told[at + 1:]), False)
        end = machine.index(END)
        self.assertIs(keeps_swaps_out(machine, told + (((end, end), "ab"),)), True)
        self.assertIs(keeps_swaps_out(machine, told + (((end, end), "done"),)), False)
        for thing in list(ODD_THINGS) + list(lists_for_tuples(told)) + [
                told + (((end, end), "aa"),), told + (((end, end), "a"),), told + (((end, end), "don"),), told + (((end, end), ("a", "b")),),
                told + ((end, end, ""),), told + (((end, 99), ""),), told + (((end,), ""),), told + (((end, end), "\u25a1a"),), told + (((end, end), "a\u25a1"),),
                set(told), dict.fromkeys(told)]:
            with self.subTest(repr(thing)):
                self.assertIs(keeps_swaps_out(machine, thing), False)

    def test_values_that_are_swapped(self):
        self.assertIs(are_swapped(INT, FIGURES, 123, 132), True)
        self.assertIs(are_swapped(INT, FIGURES, 132, 123), True)
        self.assertIs(are_swapped(INT, FIGURES, 123, 321), False)
        self.assertIs(are_swapped(INT, FIGURES, 123, 123), False)
        self.assertIs(are_swapped(INT, FIGURES, 122, 122), False)
        self.assertIs(are_swapped(INT, FIGURES, 1234, 2143), False)
        self.assertIs(are_swapped(INT, FIGURES, 123, 134), False)
        self.assertIs(are_swapped(INT, FIGURES, 12, 34), False)
        for one, other in ((12, 120), (120, 12), (12, 210), (210, 12), (12, 0), (0, 12)):
            self.assertIs(are_swapped(INT, FIGURES, one, other), False)
        self.assertIs(are_swapped(INT, HUGE, 12, 21), False)
        self.assertIs(are_swapped(DIGITS, PADDED, 1, 10), True)
        self.assertIs(are_swapped(PRICE, LOOSE, (1, 23), (13, 2)), True)
        for one, other in ((12, "21"), ("12", 21), (None, 21), (12, None), (12.0, 21), ([], {}), (True, 1)):
            with self.subTest((one, other)):
                self.assertIs(are_swapped(INT, FIGURES, one, other), False)


if __name__ == "__main__":
    unittest.main()
