"""[13] Parts."""

import random
import unittest

from readagain.errors import BadText, BadThing, ManyValues, TooLarge
from readagain.sorts import is_value
from readagain.spans import part_at, replaced, spans, with_part
from readagain.writing import write
from tests.making import DIGITS, FIGURES, INT, LOOSE, PADDED, PRICE, TIGHT, WORD, some_pair, some_value, some_values

ONE = ("one", 2)
NAMES = ("names", ("no", "yes"))
DEEP = ("row", (("many", ("maybe", ("case", (INT, WORD))), 0, None), ONE))
VALUE = ((("some", (0, 12)), None, ("some", (1, "ab"))), 1)
NO_PATHS = [None, 0, 1, True, "", "0", [], [0], {}, ((),), (None,), ("0",), (0.0,), (-1,), ([0],), (True,), (False,), (9,)]


def all_paths(sort, value):
    """All paths that lead to a part of a value, and what they lead to."""
    found = [((), sort, value)]
    kind = sort[0]
    if kind == "row":
        within = list(enumerate(zip(sort[1], value)))
    elif kind == "many":
        within = [(at, (sort[1], part)) for at, part in enumerate(value)]
    elif kind == "case":
        within = [(1, (sort[1][value[0]], value[1]))]
    elif kind == "maybe" and value is not None:
        within = [(1, (sort[1], value[1]))]
    else:
        within = []
    for number, (part_sort, part) in within:
        found.extend(((number,) + path, told, deeper) for path, told, deeper in all_paths(part_sort, part))
    return found


class Parts(unittest.TestCase):
    def test_where_paths_lead(self):
        for path, part in (((), VALUE), ((0,), VALUE[0]), ((1,), 1), ((0, 0), ("some", (0, 12))), ((0, 0, 1), (0, 12)),
                           ((0, 0, 1, 1), 12), ((0, 1), None), ((0, 2, 1, 1), "ab")):
            with self.subTest(path):
                self.assertEqual(part_at(DEEP, VALUE, path), part)
                self.assertEqual(with_part(DEEP, VALUE, path, part), VALUE)

    def test_paths_that_lead_to_none(self):
        wrong = NO_PATHS + [
            (2,), (0, 3), (0, -1), (0, 0, 0), (0, 0, 2), (0, 0, 1, 0), (0, 0, 1, 2), (0, 0, 1, 1, 0), (0, 0, 1, 1, 1),
            (0, 1, 1), (0, 1, 0), (1, 0), (1, 1), (0, 2, 1, 1, 0), (0, 0, True), (0, 0, 1, True), (0, True), (False, 0),
            [0, 0], (0, (0,)), (0, None), (0, "0"), (0, 0, 1.0), (0,) * 5000]
        for path in wrong:
            with self.subTest(repr(path)[:80]):
                with self.assertRaises(BadThing) as caught:
                    part_at(DEEP, VALUE, path)
                self.assertIs(caught.exception.thing, path)
                for part in (0, object()):
                    with self.assertRaises(BadThing) as caught:
                        with_part(DEEP, VALUE, path, part)
                    self.assertIs(caught.exception.thing, path)
        for sort, value in ((INT, 5), (WORD, "ab"), (ONE, 1), (("maybe", ONE), None), (("row", ()), ()),
                            (("many", ONE, 0, None), ())):
            for path in NO_PATHS + [(0,), (1,)]:
                with self.assertRaises(BadThing):
                    part_at(sort, value, path)

    def test_another_part(self):
        for path, part, told in (
                ((1,), 0, (VALUE[0], 0)), ((0,), (), ((), 1)), ((0, 1), ("some", (0, 5)), (VALUE[0][:1] + (("some", (0, 5)),) + VALUE[0][2:], 1)),
                ((0, 2, 1, 1), "", (VALUE[0][:2] + (("some", (1, "")),), 1)), ((0, 0, 1), (1, "b"), ((("some", (1, "b")),) + VALUE[0][1:], 1)),
                ((), ((), 0), ((), 0))):
            with self.subTest((path, part)):
                self.assertEqual(with_part(DEEP, VALUE, path, part), told)

    def test_a_part_that_is_no_value_there(self):
        strange = [None, True, 1.0, [], {}, "abc", (), -1, 2, "x", (1,), object()]
        for path, parts in (((1,), [2, -1, True, None, "1", (0,)]), ((0,), [None, [], (1,), "", ((0, 1),)]),
                            ((0, 0), [("some",), ("some", 5), 5, (0, 12), ["some", (0, 12)]]),
                            ((0, 2, 1, 1), ["c", "aba", 1, None, b"a"]), ((0, 0, 1, 1), ["ab", None, True, 1.5]),
                            ((0, 0, 1), [(2, 1), (0, "a"), (1, 1), [0, 1], None]), ((), strange)):
            for part in parts:
                with self.subTest((path, part)):
                    with self.assertRaises(BadThing) as caught:
                        with_part(DEEP, VALUE, path, part)
                    self.assertIs(caught.exception.thing, part)

    def test_values_of_all_kinds(self):
        rng = random.Random(41)
        for _ in range(150):
            sort, _ = some_pair(rng, True, 4)
            for value in some_values(rng, sort, 3):
                for path, part_sort, part in all_paths(sort, value):
                    self.assertEqual(part_at(sort, value, path), part)
                    other = some_value(rng, part_sort)
                    changed = with_part(sort, value, path, other)
                    self.assertTrue(is_value(sort, changed))
                    self.assertEqual(part_at(sort, changed, path), other)
                    self.assertEqual(with_part(sort, changed, path, part), value)


class Spans(unittest.TestCase):
    def told(self, sort, format, value, text, pieces):
        """Pieces: pairs of how many signs, and what they stand for."""
        with self.subTest((format, value)):
            self.assertEqual(write(sort, format, value), text)
            paths = tuple(path for many, path in pieces for _ in range(many))
            self.assertEqual(spans(sort, format, value), paths)

    def test_examples(self):
        self.assertEqual((spans(PRICE, TIGHT, (12, 3)), replaced(PRICE, TIGHT, "1203", (1,), 45)),
                         (((0,), (0,), None, (1,)), "1245"))

    def test_each_kind_of_format(self):
        grouped = ("figures", 10, "+", 5, 3, ",", "$")
        self.told(INT, grouped, 12, "+$00,012", [(8, ())])
        self.told(DIGITS, ("powers", 10, "+"), 70, "+7e1", [(4, ())])
        self.told(WORD, ("plain",), "ab", "ab", [(2, ())])
        self.told(WORD, ("plain",), "", "", [])
        self.told(WORD, ("spelled", (("a", "xyz"),)), "ab", "xyzb", [(4, ())])
        self.told(WORD, ("quoted", "'", "a"), "ab", "'aab'", [(5, ())])
        self.told(ONE, NAMES, 1, "yes", [(3, ())])
        maybe = ("maybe", ("maybe", INT))
        format = ("maybe", "none", ("maybe", "-", FIGURES))
        self.told(maybe, format, None, "none", [(4, ())])
        self.told(maybe, format, ("some", None), "-", [(1, (1,))])
        self.told(maybe, format, ("some", ("some", 12)), "12", [(2, (1, 1))])
        self.told(("row", (INT, WORD)), ("row", ("<", (0, FIGURES), ", ", (1, ("plain",)), ">")), (12, "a"), "<12, a>",
                  [(1, None), (2, (0,)), (2, None), (1, (1,)), (1, None)])
        self.told(("row", ()), ("row", ("ab",)), (), "ab", [(2, None)])
        many, format = ("many", INT, 0, None), ("many", "no", "((", "; ", ")", FIGURES)
        self.told(many, format, (), "no", [(2, None)])
        self.told(many, format, (1, 23), "((1; 23)", [(2, None), (1, (0,)), (2, None), (2, (1,)), (1, None)])
        self.told(("case", (INT, WORD)), ("case", (FIGURES, ("plain",))), (1, "ab"), "ab", [(2, (1,))])
        self.told(PRICE, ("skip",), (1, 2), "", [])

    def test_fills_cuts_and_check_signs(self):
        self.told(INT, ("pad", 4, "0", ">", FIGURES), 7, "0007", [(3, None), (1, ())])
        self.told(INT, ("pad", 4, "0", "<", FIGURES), 7, "7000", [(1, ()), (3, None)])
        self.told(INT, ("pad", 4, "0", "^", FIGURES), 7, "0700", [(1, None), (1, ()), (2, None)])
        self.told(INT, ("pad", 1, "0", "^", FIGURES), 77, "77", [(2, ())])
        self.told(INT, ("cut", 2, FIGURES), 777, "77", [(2, ())])
        self.told(INT, ("cut", 3, ("pad", 4, "0", "^", FIGURES)), 7, "070", [(1, None), (1, ()), (1, None)])
        self.told(INT, ("pad", 4, "0", "^", ("cut", 2, FIGURES)), 777, "0770", [(1, None), (2, ()), (1, None)])
        self.told(INT, ("checked", 11, 3, FIGURES), 123, "1231", [(3, ()), (1, None)])
        self.told(INT, ("cut", 3, ("checked", 11, 3, FIGURES)), 123, "123", [(3, ())])
        self.told(INT, ("pad", 2, "*", "<", ("skip",)), 5, "**", [(2, None)])
        self.told(PRICE, ("checked", 7, 2, ("row", ((0, FIGURES), ".", (1, PADDED)))), (5, 3), "5.036",
                  [(1, (0,)), (2, None), (1, (1,)), (1, None)])

    def test_of_all_kinds(self):
        rng = random.Random(42)
        for _ in range(200):
            sort, format = some_pair(rng, True, 4)
            for value in some_values(rng, sort, 5):
                told = spans(sort, format, value)
                self.assertIsInstance(told, tuple)
                self.assertEqual(len(told), len(write(sort, format, value)))
                leaves = [path for path, part_sort, part in all_paths(sort, value)
                          if part_sort[0] in ("int", "word", "one") or part_sort[0] == "maybe" and part is None]
                self.assertTrue(all(path is None or path in leaves for path in told))

    def test_no_machine_is_needed(self):
        large = ("row", (("many", ("many", INT, 0, 12), 0, 12), INT))
        format = ("row", ((0, ("many", "", "", "", "", ("many", "", "", "", "", FIGURES))), ",", (1, FIGURES)))
        value = (((1, 2), (3,)), 4)
        self.told(large, format, value, "123,4", [(1, (0, 0, 0)), (1, (0, 0, 1)), (1, (0, 1, 0)), (1, None), (1, (1,))])
        self.assertEqual(part_at(large, value, (0, 0, 1)), 2)
        self.assertEqual(with_part(large, value, (0, 0, 1), 5), (((1, 5), (3,)), 4))
        with self.assertRaises(TooLarge):
            replaced(large, format, "123,4", (1,), 5)


class Replaced(unittest.TestCase):
    def test_texts(self):
        self.assertEqual(replaced(PRICE, TIGHT, "1203", (), (0, 0)), "000")
        self.assertEqual(replaced(PRICE, TIGHT, "1203", (0,), 7), "703")
        self.assertEqual(replaced(("maybe", DIGITS), ("maybe", "-", FIGURES), "12", (1,), 3), "3")
        self.assertEqual(replaced(("maybe", DIGITS), ("maybe", "-", FIGURES), "12", (), None), "-")

    def test_errors_in_their_order(self):
        for text, place in (("x", 0), ("1", 1), ("12x", 2), (None, 0), (5, 0)):
            with self.assertRaises(BadText) as caught:
                replaced(PRICE, TIGHT, text, (5,), None)
            self.assertEqual(caught.exception.place, place)
        with self.assertRaises(ManyValues) as caught:
            replaced(PRICE, LOOSE, "123", (5,), None)
        self.assertEqual(caught.exception.text, "123")
        for path in ((5,), (True,), None, [0], (0, 0)):
            with self.assertRaises(BadThing) as caught:
                replaced(PRICE, TIGHT, "1203", path, None)
            self.assertIs(caught.exception.thing, path)
        for path, part in (((0,), -1), ((1,), 100), ((1,), None), ((), (1,)), ((1,), True)):
            with self.assertRaises(BadThing) as caught:
                replaced(PRICE, TIGHT, "1203", path, part)
            self.assertIs(caught.exception.thing, part)


if __name__ == "__main__":
    unittest.main()
