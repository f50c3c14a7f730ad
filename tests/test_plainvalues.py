"""[35] Values as texts."""

import random
import unittest

from readagain.errors import BadSource
from readagain.plainvalues import read_value, read_values, value_text
from tests.grammar import MORE_PIECES, NO_PIECES, joined, split, spoiled, told_by, value_rule
from tests.making import DIGITS, INT, PRICE, WORD, some_sort, some_value, some_values

ROWS = ("many", PRICE, 0, None)
NATURAL = ("int", 0, None)
EVERYTHING = ("row", (("maybe", WORD), ("case", (INT, ("row", ()))), ("many", ("one", 3), 1, 2)))


def wrong(call):
    """(line, column) of BadSource."""
    try:
        call()
    except BadSource as error:
        return (error.line, error.column)
    return None


class Values(unittest.TestCase):
    def test_examples(self):
        self.assertEqual((value_text(("many", ("maybe", WORD), 0, None), (None, ("some", "ab"))), read_value(PRICE, "(12, 3)")),
                         ('many (none, some "ab")', (12, 3)))

    def test_each_kind(self):
        for sort, text, value in (
                (INT, "0", 0), (INT, "-7", -7), (INT, "999999999999", 999999999999), (("one", 3), "2", 2), (WORD, '""', ""), (WORD, '"ab"', "ab"),
                (("word", '"\\', 0, None), '"\\"\\\\"', '"\\'), (("maybe", INT), "none", None), (("maybe", INT), "some 5", ("some", 5)),
                (("maybe", INT), "some-5", ("some", -5)), (("maybe", ("maybe", INT)), "some none", ("some", None)), (("row", ()), "()", ()), (PRICE, "(12, 3)", (12, 3)),
                (PRICE, "(12,3)", (12, 3)), (("row", (INT,)), "(5)", (5,)), (("many", INT, 0, None), "many ()", ()), (("many", INT, 0, None), "many(1,-2,3)", (1, -2, 3)),
                (("many", INT, 0, 0), "many ()", ()), (("case", (INT, WORD)), 'case 1 "a"', (1, "a")), (("case", (INT, WORD)), "case 0-1", (0, -1)),
                (EVERYTHING, '(some "ab", case 1 (), many (0, 2))', (("some", "ab"), (1, ()), (0, 2))),
                (EVERYTHING, "\n ( none # none\n,case 0 7,#)\n\nmany(1))#\n", (None, (0, 7), (1,)))):
            with self.subTest(text):
                self.assertEqual(read_value(sort, text), value)
                self.assertEqual(read_value(sort, value_text(sort, value)), value)

    def test_drawn_values(self):
        rng = random.Random(261)
        for _ in range(300):
            sort = some_sort(rng, rng.choice((1, 2, 3, 4)), True)
            for value in some_values(rng, sort, 3)[:3]:
                text = value_text(sort, value)
                self.assertEqual(read_value(sort, text), value)
                self.assertNotIn("\n", text)
                self.assertEqual(read_value(sort, joined(rng, split(text), True)), value)

    def test_long_numbers(self):
        for many in (9, 10, 4000):
            figures = "7" * many
            self.assertEqual(read_value(INT, figures), int(figures))
            self.assertEqual(value_text(INT, int(figures)), figures)
            self.assertEqual(read_value(INT, "-" + figures), -int(figures))
            self.assertEqual(value_text(INT, -int(figures)), "-" + figures)
            self.assertEqual(wrong(lambda: read_value(("one", 3), " " + figures)), (1, 2))
            self.assertEqual(wrong(lambda: read_value(("case", (INT,)), "case " + figures + " 1")), (1, 6))
        self.assertEqual(wrong(lambda: read_value(INT, "  " + "7" * 4001)), (1, 3))
        self.assertEqual(wrong(lambda: read_value(INT, "-" + "7" * 4001)), (1, 1))
        self.assertEqual(wrong(lambda: read_value(INT, "5 " + "0" * 4000)), (1, 3))
        # What is written goes beyond what is read.
        self.assertEqual(len(value_text(INT, 10 ** 6000)), 6001)


class WrongPieces(unittest.TestCase):
    def right(self, sort, text):
        told = told_by(value_rule(sort), text, 4000)
        if type(told) is list:
            self.assertEqual(wrong(lambda: read_value(sort, text)), tuple(told), (sort, text))
            return "wrong"
        self.assertEqual(read_value(sort, text), told, (sort, text))
        return "read"

    def test_drawn_values(self):
        rng = random.Random(262)
        found = []
        for _ in range(400):
            sort = some_sort(rng, rng.choice((1, 2, 3, 4)), True)
            pieces = split(value_text(sort, some_value(rng, sort)))
            for _ in range(8):
                changed = spoiled(rng, pieces, MORE_PIECES + pieces * 3 if rng.random() < 0.8 else NO_PIECES)
                found.append(self.right(sort, joined(rng, changed, rng.random() < 0.5)))
            text = joined(rng, pieces, True)
            at = rng.randrange(len(text) + 1)
            found.append(self.right(sort, text[:at]))
            found.append(self.right(sort, text[:at] + rng.choice('"\\%(),.-# \n0a\t') + text[at:]))
        self.assertGreater(found.count("read"), 300)
        self.assertGreater(found.count("wrong"), 1000)

    def test_places(self):
        two, some = ("many", INT, 1, 2), ("many", INT, 2, 3)
        for sort, text, place in (
                (INT, "", (1, 1)), (INT, "5 5", (1, 3)), (INT, '"5"', (1, 1)), (INT, "none", (1, 1)), (INT, "(5)", (1, 1)), (INT, "05", (1, 1)), (INT, "-0", (1, 1)),
                (DIGITS, "100", (1, 1)), (DIGITS, " -1", (1, 2)), (("one", 3), "3", (1, 1)), (("one", 3), "-1", (1, 1)), (WORD, '"abc"', (1, 1)), (WORD, ' "c"', (1, 2)),
                (WORD, '"abb"', (1, 1)), (WORD, '"a" "b"', (1, 5)), (WORD, "a", (1, 1)), (WORD, '"a', (1, 3)), (("maybe", INT), "5", (1, 1)), (("maybe", INT), "some", (1, 5)),
                (("maybe", INT), "some none", (1, 6)), (("maybe", INT), "none 5", (1, 6)), (("maybe", DIGITS), "some 100", (1, 6)), (PRICE, "(1)", (1, 3)), (PRICE, "()", (1, 2)),
                (PRICE, "(1, 2, 3)", (1, 6)), (PRICE, "(1, 2,", (1, 6)), (PRICE, "(1, 2 3)", (1, 7)), (PRICE, "(1, 2", (1, 6)), (PRICE, "(1, 100)", (1, 5)), (PRICE, "(1 2)", (1, 4)),
                (PRICE, "1, 2", (1, 1)), (PRICE, "(1, 2))", (1, 7)), (PRICE, "(-1, 100)", (1, 2)), (PRICE, "(,2)", (1, 2)), (("row", ()), "(1)", (1, 2)), (("row", ()), "(,)", (1, 2)),
                (("row", ()), "", (1, 1)), (two, "many ()", (1, 7)), (two, "many (1, 2, 3)", (1, 11)), (two, "many (1,)", (1, 9)), (two, "(1)", (1, 1)), (two, "many", (1, 5)),
                (two, "many (1 2)", (1, 9)), (two, "many (1,\n2\n,\n3)", (3, 1)), (some, "many (1)", (1, 8)), (some, "many (1, 2, 3, 4)", (1, 14)), (some, "many (1, 2, 3, 4, 5)", (1, 14)),
                (("many", INT, 0, 0), "many (1)", (1, 7)), (("many", INT, 0, 0), "many (,", (1, 7)), (("many", PRICE, 0, 1), "many ((1, 2), (1, 200))", (1, 13)),
                (("case", (INT, WORD)), "case 2 5", (1, 6)), (("case", (INT, WORD)), "case 1 5", (1, 8)), (("case", (INT, WORD)), "case 5", (1, 6)), (("case", (INT, WORD)), "case", (1, 5)),
                (("case", (INT, WORD)), "case -1 5", (1, 6)), (("case", (INT, WORD)), "1 5", (1, 1)), (("case", (INT, WORD)), 'case "a" 5', (1, 6)),
                # All pieces are looked at ahead of what they tell.
                (DIGITS, "100 007", (1, 5)), (PRICE, "(1, 2, 3) %", (1, 11)), (WORD, 'c "', (1, 4)), (INT, "5 # %", None), (INT, "# 5", (1, 4)), (INT, "\n\n", (3, 1)),
                (INT, "5\n\n 6", (3, 2)), (("maybe", INT), "some\n#", (2, 2))):
            with self.subTest((sort, text)):
                self.assertEqual(wrong(lambda: read_value(sort, text)), place)
                if place is not None:
                    self.assertEqual(told_by(value_rule(sort), text, 4000), list(place))

    def test_things_that_are_no_strings(self):
        for thing in (None, 7, True, b"7", ["7"], (), {}, 1.5):
            for call in (read_value, read_values):
                with self.subTest(repr(thing)):
                    self.assertEqual(wrong(lambda: call(INT, thing)), (0, 0))


class Lines(unittest.TestCase):
    def test_lines(self):
        self.assertEqual(read_values(INT, ""), ())
        self.assertEqual(read_values(INT, "\n  \n # 5\n#\n"), ())
        self.assertEqual(read_values(INT, "1\n2\n\n 3 # 4\n# 5\n-6"), (1, 2, 3, -6))
        self.assertEqual(read_values(PRICE, "(1, 2)\n(3, 4)"), ((1, 2), (3, 4)))
        self.assertEqual(read_values(("row", ()), "()\n()\n"), ((), ()))

    def test_each_line_by_itself(self):
        for text, place in (
                ("1\n2 3\n", (2, 3)), ("1\n\n\n x", (4, 2)), ("1\n2\n\"", (3, 2)), ("1\n00", (2, 1)), ("1 #\n2 # x\n3 3 # y", (3, 3)), ("(1,\n2)", (1, 1)), ("\n5\n5 \"x\ny", (3, 5))):
            with self.subTest(text):
                self.assertEqual(wrong(lambda: read_values(INT, text)), place)
        self.assertEqual(wrong(lambda: read_values(PRICE, "(1, 2)\n(1,\n2)")), (2, 4))
        self.assertEqual(wrong(lambda: read_values(PRICE, "(1, 2)\n (1, # 2)\n2)")), (2, 10))
        self.assertEqual(wrong(lambda: read_values(PRICE, "(1, 2)\n\n(1, 2, 3)")), (3, 6))

    def test_drawn_lines(self):
        rng = random.Random(263)
        for _ in range(200):
            sort = some_sort(rng, rng.choice((1, 2, 3)), True)
            values = some_values(rng, sort, 5)
            rows = [joined(rng, split(value_text(sort, value)), False) + rng.choice(("", " # %", "#")) for value in values]
            for _ in range(3):
                rows.insert(rng.randrange(len(rows) + 1), rng.choice(("", "  ", "# 1", "#\"")))
            kept = [number for number, row in enumerate(rows) if row.strip() and not row.lstrip().startswith("#")]
            self.assertEqual(read_values(sort, "\n".join(rows)), tuple(values))
            spoiled_row = rng.choice(kept)
            for number in range(spoiled_row, len(rows)):
                rows[number] = rows[number].replace("#", " x #")
            rows[spoiled_row] = rng.choice(("%", "x", "1 2 3", "((")) + rows[spoiled_row]
            told = told_by(value_rule(sort), rows[spoiled_row], 4000)
            if type(told) is list:
                self.assertEqual(wrong(lambda: read_values(sort, "\n".join(rows))), (spoiled_row + 1, told[1]))

    def test_equal_answers(self):
        text = '(some "ab", case 1 (), many (0, 2))'
        self.assertEqual(read_value(EVERYTHING, text), read_value(EVERYTHING, text))
        self.assertEqual(read_values(NATURAL, "5\n6"), read_values(NATURAL, "5\n6"))
        self.assertEqual(value_text(ROWS, ((1, 2), (3, 4))), value_text(ROWS, ((1, 2), (3, 4))))


if __name__ == "__main__":
    unittest.main()
