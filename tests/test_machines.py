"""[8] Machines; [9] what can be asked."""

import random
import unittest

from readagain.errors import TooLarge
from readagain.machines import machine_of, place_behind
from readagain.reading import Scanner, read, values_of
from readagain.scores import score, value_of
from readagain.sorts import how_many_values, is_value
from readagain.spans import part_at, replaced, spans, with_part
from readagain.verdicts import are_twins, verdict
from tests.making import DIGITS, FIGURES, INT, PADDED, PRICE, TIGHT, WORD, all_values, some_pair, some_values
from tests.oracle import kinds_apart, machine_from_scores, order_reached, rows_of_items

NAMES = ("names", ("no", "n"))
BITS = ("figures", 2, "-", 12, 4, ",", "0x")
BOUNDED = ("int", -123456789, 987654321)
SIGNS = [chr(code) for code in range(32, 127) if chr(code) != "%"]

ENDLESS = [
    (INT, FIGURES), (INT, ("figures", 4, "+", 12, 4, "_", "0x")), (INT, ("figures", 2, " ", 5, 3, ",", "")),
    (("int", 17, None), ("figures", 10, "-", 3, 2, ".", "")), (("int", None, -5), ("figures", 3, "-", 1, 0, "", "#")),
    (("int", -250, None), ("figures", 10, "-", 4, 3, ",", "")), (("int", 1000, None), ("figures", 10, "-", 2, 3, ",", "")),
    (("word", "'ab", 0, None), ("quoted", "'", "a")), (("word", "ab", 8, None), ("spelled", (("a", "xyz"),))),
    (("word", "ab", 1, None), ("plain",)), (("many", WORD, 0, None), ("many", "-", "(", ";", ")", ("plain",))),
    (("many", WORD, 3, None), ("many", "-", "(", ";", ")", ("plain",))),
    (("many", ("int", 5, None), 1, 4), ("many", "", "", ",", "", FIGURES)),
    (PRICE, TIGHT), (("maybe", INT), ("maybe", "12", FIGURES)), (("case", (INT, WORD)), ("case", (FIGURES, ("plain",)))),
    (INT, ("pad", 5, "0", ">", FIGURES)), (INT, ("pad", 6, ".", "^", ("figures", 3, "-", 3, 2, ",", ""))),
    (INT, ("pad", 4, ".", "<", ("pad", 3, "-", ">", FIGURES))), (INT, ("cut", 4, FIGURES)), (INT, ("cut", 0, FIGURES)),
    (INT, ("cut", 4, ("pad", 6, ".", "^", FIGURES))), (INT, ("pad", 6, ".", "^", ("cut", 4, FIGURES))),
    (INT, ("checked", 7, 3, FIGURES)), (("word", "ab", 0, None), ("checked", 16, 5, ("plain",))),
    (INT, ("pad", 4, "0", ">", ("checked", 3, 2, FIGURES))), (INT, ("cut", 3, ("checked", 11, 3, FIGURES))),
    (INT, ("checked", 5, 2, ("pad", 3, "0", ">", FIGURES))), (PRICE, ("skip",)), (PRICE, ("pad", 3, "*", "^", ("skip",))),
    (("many", INT, 0, None), ("checked", 3, 2, ("many", "", "", ",", "", ("cut", 2, FIGURES)))),
    (PRICE, ("pad", 6, " ", ">", ("row", ((0, FIGURES), ".", (1, ("skip",)))))),
]

FINITE = [
    (("one", 12), ("names", ("a", "b", "", "ab", "aab", "c", "d", "e", "f", "g", "hab", "i"))),
    (("int", -12, 345), FIGURES), (("int", 8, 1040), ("figures", 2, "+", 4, 4, "_", "")),
    (("int", -500, -7), ("figures", 16, " ", 1, 2, ".", "0x")), (("int", -130, 130), ("powers", 10, "+")),
    (("int", 0, 200), ("powers", 2, "-")), (("int", 10, 10), ("powers", 10, "-")), (("int", 0, 0), ("powers", 3, "-")),
    (("int", -4, -1), ("powers", 2, " ")), (("word", "'a-", 1, 4), ("quoted", "-", "'")),
    (("many", ("one", 2), 2, 5), ("many", "x", "(", "", ")", ("names", ("", "a")))),
    (("many", INT, 0, 0), ("many", "x", "(", "", ")", FIGURES)),
    (("maybe", ("maybe", DIGITS)), ("maybe", "", ("maybe", "7", PADDED))),
    (("row", ()), ("row", ())), (("row", ()), ("row", ("ab", "c"))), (("row", ()), ("pad", 4, ".", "^", ("row", ("ab",)))),
    (("row", ()), ("checked", 7, 3, ("row", ("ab",)))), (("row", ()), ("cut", 1, ("row", ("ab",)))),
    (("row", (("row", ()), ("one", 2), ("row", ()))), ("row", ((0, ("row", ("a",))), (1, NAMES), "b", (2, ("row", ("c",)))))),
    (("case", (DIGITS, WORD, ("row", ()))), ("case", (FIGURES, ("plain",), ("row", ("1",))))),
    (("int", -99, 99), ("checked", 11, 3, ("pad", 3, "0", ">", FIGURES))), (WORD, ("checked", 2, 1, ("plain",))),
    (("int", -99, 999), ("pad", 4, "0", "^", ("cut", 2, FIGURES))), (("int", 0, 99), ("cut", 2, ("checked", 7, 3, FIGURES))),
]


def lasting_names(total):
    """A sort and a format with 8 places and one for each of so many signs."""
    texts = []
    for sign in SIGNS[:72]:
        many = min(8, total)
        total -= many
        texts.append(("." * 7 + sign)[-many:] if many else "")
    assert total == 0
    rows = [tuple(texts[at:at + 12]) for at in range(0, 72, 12)]
    return ("case", (("one", 12),) * 6), ("case", tuple(("names", row) for row in rows))


class Machines(unittest.TestCase):
    def test_example(self):
        self.assertEqual(
            machine_of(("one", 2), NAMES),
            (("marks", (("name 0", 1), ("name 1", 2))), ("sign", "n", 3), ("sign", "n", 4), ("sign", "o", 4), ("end",)))

    def same_as_from_scores(self, sort, format):
        scores = [score(sort, format, value) for value in all_values(sort)]
        told = machine_from_scores(scores)
        with self.subTest((sort, format)):
            if len(told) > 500:
                with self.assertRaises(TooLarge):
                    machine_of(sort, format)
            else:
                self.assertEqual(machine_of(sort, format), told)

    def test_finitely_many_values(self):
        for sort, format in FINITE:
            self.same_as_from_scores(sort, format)

    def test_some_of_all_kinds(self):
        rng = random.Random(1)
        tried = 0
        while tried < 250:
            sort, format = some_pair(rng, False, rng.choice((2, 3, 4)))
            if how_many_values(sort) <= 300:
                self.same_as_from_scores(sort, format)
                tried += 1

    def looks_right(self, rng, sort, format):
        """What a machine has to be, also of endless many values."""
        machine = machine_of(sort, format)
        self.assertEqual(kinds_apart(machine), len(machine))
        self.assertEqual(order_reached(machine), list(range(len(machine))))
        for value in some_values(rng, sort, 60):
            items = score(sort, format, value)
            self.assertEqual(machine[place_behind(machine, items)], ("end",))
        for items in rows_of_items(rng, machine, 60):
            value = value_of(sort, format, items)
            self.assertTrue(is_value(sort, value))
            self.assertEqual(score(sort, format, value), items)

    def test_endless_many_values(self):
        rng = random.Random(2)
        for sort, format in ENDLESS:
            with self.subTest((sort, format)):
                self.looks_right(rng, sort, format)

    def test_endless_many_values_of_all_kinds(self):
        rng = random.Random(3)
        for _ in range(150):
            sort, format = some_pair(rng, True, rng.choice((2, 3)))
            with self.subTest((sort, format)):
                try:
                    self.looks_right(rng, sort, format)
                except TooLarge:
                    pass

    def test_endless_figures_place_by_place(self):
        machine = machine_of(("int", 0, None), ("figures", 2, "-", 1, 2, ",", ""))
        told = (
            ("marks", (("plus", 1),)), ("marks", (("first 1", 2), ("first 2", 3))),
            ("marks", (("figure 0", 4), ("figure 1", 5))), ("marks", (("figure 1", 6),)), ("sign", "0", 7),
            ("sign", "1", 8), ("sign", "1", 9), ("marks", (("stop", 10),)),
            ("marks", (("figure 0", 11), ("figure 1", 12), ("stop", 10))), ("marks", (("figure 0", 13), ("figure 1", 5))),
            ("end",), ("sign", ",", 14), ("sign", ",", 6), ("sign", "0", 8), ("sign", "0", 9))
        self.assertEqual(machine, told)

    def test_equal_answers(self):
        self.assertEqual(machine_of(PRICE, TIGHT), machine_of(PRICE, TIGHT))


class Places(unittest.TestCase):
    def test_where_items_lead(self):
        machine = machine_of(("one", 2), NAMES)
        for items, place in (((), 0), (("name 0",), 1), (("name 1",), 2), (("name 0", "n"), 3), (("name 1", "n"), 4),
                             (("name 0", "n", "o"), 4), (("name 0", "n", "o", "o"), None), (("name 2",), None),
                             (("n",), None), (("name 0", "o"), None), (("name 0", "name 1"), None), (("",), None),
                             (("end",), None), (("name 1", "n", "end"), None), (("name 0", ""), None)):
            with self.subTest(items):
                self.assertEqual(place_behind(machine, items), place)

    def test_all_beginnings_of_scores(self):
        rng = random.Random(4)
        for sort, format in FINITE[:8]:
            machine = machine_of(sort, format)
            scores = [score(sort, format, value) for value in all_values(sort)]
            begun = {items[:many] for items in scores for many in range(len(items) + 1)}
            for items in rng.sample(sorted(begun), min(200, len(begun))):
                place = place_behind(machine, items)
                self.assertIsNotNone(place)
                for item in ("stop", "plus", "0", "figure 0", "name 0", "more", "zeros 0"):
                    self.assertEqual(place_behind(machine, items + (item,)) is not None, items + (item,) in begun)


class Sizes(unittest.TestCase):
    JUST = [
        lasting_names(492),
        (("row", (BOUNDED,)), ("row", ("1234567", (0, BITS)))),
    ]
    MORE = [
        lasting_names(493),
        (("row", (BOUNDED,)), ("row", ("12345678", (0, BITS)))),
        (INT, ("checked", 13, 2, FIGURES)),
        (BOUNDED, ("powers", 2, "-")),
        (("many", ("many", ("many", INT, 0, 12), 0, 12), 0, 12), ("skip",)),
        (("many", ("many", ("many", INT, 0, 12), 0, 12), 0, 12), ("cut", 0, ("skip",))),
        (("many", ("many", ("many", INT, 0, 12), 0, 12), 0, 12), ("pad", 8, "0", "<", ("skip",))),
        (("many", PRICE, 8, 12), ("many", "-", "(", ";", ")", TIGHT)),
    ]

    def test_just_so_many(self):
        for sort, format in self.JUST:
            machine = machine_of(sort, format)
            self.assertEqual(len(machine), 500)
            self.assertEqual(kinds_apart(machine), 500)
        sort, format = self.JUST[0]
        told = machine_from_scores([score(sort, format, value) for value in all_values(sort)])
        self.assertEqual(machine_of(sort, format), told)
        sort, format = self.MORE[0]
        told = machine_from_scores([score(sort, format, value) for value in all_values(sort)])
        self.assertEqual(len(told), 501)

    def test_more(self):
        for sort, format in self.MORE:
            with self.subTest((sort, format)):
                with self.assertRaises(TooLarge) as caught:
                    machine_of(sort, format)
                self.assertEqual(caught.exception.most, 500)

    def test_what_is_cut_off_counts_for_nothing(self):
        inner = ("checked", 13, 2, ("checked", 16, 3, FIGURES))
        for format in (inner, ("pad", 8, "0", ">", inner)):
            with self.assertRaises(TooLarge):
                machine_of(INT, format)
        self.assertEqual(machine_of(INT, ("cut", 0, inner)), machine_of(INT, ("cut", 0, FIGURES)))
        Machines().looks_right(random.Random(9), INT, ("cut", 3, inner))

    def test_what_is_never_come_to_counts_for_nothing(self):
        sort, format = self.MORE[0]
        empty = ("many", sort, 0, 0)
        told = (("marks", (("stop", 1),)), ("sign", "a", 2), ("end",))
        for wrapped in (format, ("cut", 3, format), ("checked", 7, 2, format), ("pad", 8, "0", "<", format)):
            self.assertEqual(machine_of(empty, ("many", "a", "", "", "", wrapped)), told)
        self.assertEqual(len(machine_of(("row", (empty, WORD)), ("skip",))), 5)

    def test_ahead_of_other_errors(self):
        sort, format = self.MORE[0]
        for asked in (lambda: verdict(sort, format), lambda: read(sort, format, "x"), lambda: read(sort, format, None),
                      lambda: values_of(sort, format, 5), lambda: Scanner(sort, format),
                      lambda: replaced(sort, format, None, None, None), lambda: replaced(sort, format, "x", (), 0)):
            with self.assertRaises(TooLarge) as caught:
                asked()
            self.assertEqual(caught.exception.most, 500)

    def test_where_no_machine_is_needed(self):
        sort, format = self.MORE[0]
        self.assertTrue(are_twins(("row", (sort,)), ("row", ((0, ("skip",)),)), ((0, 0),), ((0, 1),)))
        self.assertFalse(are_twins(sort, format, (0, 0), (0, 1)))
        self.assertEqual(part_at(sort, (5, 3), (1,)), 3)
        self.assertEqual(with_part(sort, (5, 3), (1,), 4), (5, 4))
        self.assertEqual(spans(sort, format, (0, 0)), ((1,),) * 8)


if __name__ == "__main__":
    unittest.main()
