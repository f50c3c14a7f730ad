"""[14] Starts and links of two machines."""

import random
import unittest

from readagain.errors import TooLarge
from readagain.linking import links, starts
from readagain.machines import machine_of, place_behind
from readagain.scores import is_mark, score
from readagain.sorts import how_many_values
from readagain.formats import is_format
from tests.making import (
    DIGITS, FIGURES, INT, LOOSE, PADDED, PRICE, TIGHT, TWO, WORD, all_values, some_format, some_pair, some_values)

EXTRA = ("zeros ", "first ", "fills ")


def pieces(machine, items):
    """What stands between the marks that are no extra ones: (mark, signs, halt behind), "" for the first mark."""
    found = []
    mark, signs = "", ""
    for at, item in enumerate(items):
        if is_mark(item) and not item.startswith(EXTRA):
            found.append((mark, signs, place_behind(machine, items[:at])))
            mark, signs = item, ""
        elif not is_mark(item):
            signs += item
    return found + [(mark, signs, place_behind(machine, items))]


def from_values(sort, one, other, values):
    """Starts and links that some values have by two formats that spell alike."""
    machine, other_machine = machine_of(sort, one), machine_of(sort, other)
    begun, linked = set(), {}
    for value in values:
        rows = zip(pieces(machine, score(sort, one, value)), pieces(other_machine, score(sort, other, value)))
        pair = None
        for (mark, text, halt), (other_mark, other_text, other_halt) in rows:
            assert mark == other_mark
            behind = (halt, other_halt)
            if pair is None:
                begun.add((text, other_text, behind))
            else:
                linked[pair].add((mark, text, other_text, behind))
            pair = behind
            linked.setdefault(pair, set())
    return tuple(sorted(begun)), {pair: tuple(sorted(row)) for pair, row in linked.items()}


def spelled_alike(rng, sort, format):
    """Another format by which each value has the same spelling."""
    kind = format[0]
    if kind in ("pad", "cut", "checked"):
        return spelled_alike(rng, sort, format[-1])
    if rng.random() < 0.2:
        return ("pad", rng.randint(0, 3), rng.choice("0 a"), rng.choice("<>^"), spelled_alike(rng, sort, format))
    if rng.random() < 0.1:
        return ("cut", rng.randint(0, 4), spelled_alike(rng, sort, format))
    if kind == "figures":
        group = rng.choice((0, 0, 2, 3))
        return ("figures", format[1], rng.choice("-+ "), rng.choice((1, 2, 4)), group, "," if group else "", "")
    if kind == "powers":
        return format[:2] + (rng.choice("-+ "),)
    if kind == "maybe":
        return ("maybe", rng.choice(("", "no")), spelled_alike(rng, sort[1], format[2]))
    if kind == "many":
        return ("many", "", "(", rng.choice((",", "")), ")", spelled_alike(rng, sort[1], format[5]))
    if kind == "case":
        return ("case", tuple(spelled_alike(rng, part, inner) for part, inner in zip(sort[1], format[1])))
    if kind == "row":
        inner = [part for part in format[1] if not isinstance(part, str)]
        return ("row", (":",) + tuple((at, spelled_alike(rng, sort[1][at], part)) for at, part in inner))
    if kind == "skip":
        return ("pad", 2, "*", "<", ("skip",))
    return some_format(rng, sort, 2)


class Linking(unittest.TestCase):
    def same(self, sort, one, other, values):
        machine, other_machine = machine_of(sort, one), machine_of(sort, other)
        begun, linked = from_values(sort, one, other, values)
        self.assertEqual(starts(machine, other_machine), begun)
        self.assertEqual(links(machine, other_machine), linked)

    def test_example(self):
        self.assertEqual(starts(machine_of(("int", 0, 9), FIGURES), machine_of(("int", 0, 9), PADDED))[0][:2], ("", "0"))

    def test_of_one_name(self):
        machine, other = machine_of(("one", 1), ("names", ("ab",))), machine_of(("one", 1), ("names", ("c",)))
        self.assertEqual(starts(machine, other), (("", "", (0, 0)),))
        self.assertEqual(links(machine, other), {(0, 0): (("name 0", "ab", "c", (3, 2)),), (3, 2): ()})

    def test_of_figures(self):
        machine = machine_of(("int", 0, 1), ("figures", 2, "-", 1, 0, "", ""))
        other = machine_of(("int", 0, 1), ("figures", 2, "+", 2, 2, ",", ""))
        told = links(machine, other)
        self.assertEqual(starts(machine, other), (("", "", (0, 0)),))
        self.assertEqual(told[(0, 0)][0][:3], ("plus", "", "+0"))
        self.assertEqual(len(told[(0, 0)]), 1)
        behind = told[(0, 0)][0][3]
        self.assertEqual([link[:3] for link in told[behind]], [("figure 0", "0", "0"), ("figure 1", "1", "1")])
        self.assertEqual(list(told.values()).count(()), 1)

    def test_finitely_many_values(self):
        digits = ("int", -20, 120)
        grouped = ("figures", 10, "+", 4, 2, ",", "#")
        for sort, one, other in (
                (digits, FIGURES, PADDED), (digits, FIGURES, TWO), (digits, PADDED, grouped), (digits, grouped, grouped),
                (digits, ("pad", 3, ".", "^", PADDED), ("pad", 4, "-", "<", grouped)), (digits, FIGURES, ("skip",)),
                (digits, ("cut", 1, PADDED), ("checked", 7, 3, FIGURES)), (digits, ("powers", 2, "-"), ("powers", 2, "+")),
                (digits, ("skip",), ("skip",)), (WORD, ("plain",), ("quoted", "a", "b")),
                (WORD, ("pad", 1, "b", ">", ("plain",)), ("spelled", (("a", "bb"),))),
                (("row", ()), ("row", ("ab",)), ("pad", 3, "c", "^", ("row", ("ab",)))),
                (("row", (WORD, digits)), ("row", ((0, ("plain",)), (1, PADDED))), ("row", ("(", (0, ("plain",)), ",", (1, FIGURES)))),
                (("many", WORD, 1, 2), ("many", "", "(", ",", ")", ("plain",)), ("pad", 4, "x", "<", ("many", "", "", "", "", ("plain",))))):
            with self.subTest((sort, one, other)):
                self.same(sort, one, other, all_values(sort))
                self.same(sort, other, one, all_values(sort))

    def test_some_of_all_kinds(self):
        rng = random.Random(51)
        tried = 0
        while tried < 150:
            sort, one = some_pair(rng, False, 3)
            if how_many_values(sort) <= 200:
                other = spelled_alike(rng, sort, one)
                if is_format(sort, other):
                    tried += 1
                    with self.subTest((sort, one, other)):
                        try:
                            self.same(sort, one, other, all_values(sort))
                        except TooLarge:
                            pass

    def test_endless_many_values(self):
        rng = random.Random(52)
        for sort, one, other in (
                (INT, FIGURES, PADDED), (INT, FIGURES, ("skip",)), (INT, ("figures", 10, "-", 3, 3, ",", ""), FIGURES),
                (PRICE, LOOSE, TIGHT), (("word", "ab", 0, None), ("plain",), ("cut", 2, ("plain",))),
                (("many", ("int", 0, None), 0, None), ("many", "", "[", ";", "]", FIGURES), ("many", "-", "", "", "", TWO))):
            begun, linked = from_values(sort, one, other, some_values(rng, sort, 1500))
            machine, other_machine = machine_of(sort, one), machine_of(sort, other)
            with self.subTest((sort, one, other)):
                self.assertEqual(starts(machine, other_machine), begun)
                told = links(machine, other_machine)
                self.assertEqual(sorted(told), sorted(linked))
                for pair, row in linked.items():
                    self.assertTrue(set(row) <= set(told[pair]))
                    self.assertEqual(told[pair], tuple(sorted(set(told[pair]))))
                for pair, row in told.items():
                    self.assertEqual([link for link in row if link[3] not in told], [])

    def test_where_no_pair_of_ends_can_be_come_to(self):
        for sort, one, other_sort, other in (
                (DIGITS, FIGURES, WORD, ("plain",)), (("int", 0, 4), FIGURES, ("int", 5, 9), FIGURES),
                (("int", 0, 9), FIGURES, ("int", 10, 99), ("pad", 3, "0", ">", FIGURES)),
                (("one", 2), ("names", ("a", "b")), ("maybe", DIGITS), ("maybe", "", FIGURES)),
                (("row", (("one", 1), WORD)), ("skip",), ("row", (("one", 1), DIGITS)), ("skip",)),
                (("row", ()), ("row", ("a",)), DIGITS, FIGURES)):
            with self.subTest((sort, other_sort)):
                machine, other_machine = machine_of(sort, one), machine_of(other_sort, other)
                self.assertEqual(starts(machine, other_machine), ())
                self.assertEqual(links(machine, other_machine), {})

    def test_only_what_leads_to_two_ends(self):
        machine = machine_of(("int", 0, 19), FIGURES)
        other = machine_of(("int", 8, 12), FIGURES)
        told = links(machine, other)
        same = from_values(("int", 8, 12), FIGURES, FIGURES, range(8, 13))
        self.assertEqual(len(told), len(same[1]))
        self.assertEqual(sorted(link[:3] for row in told.values() for link in row),
                         sorted(link[:3] for row in same[1].values() for link in row))

    def test_new_dicts_each_time(self):
        machine = machine_of(DIGITS, FIGURES)
        told = links(machine, machine)
        kept = dict(told)
        told.clear()
        self.assertEqual(links(machine, machine), kept)


if __name__ == "__main__":
    unittest.main()
