"""[34] Sorts and formats read from texts."""

import random
import unittest

from readagain.errors import BadFormat, BadSort, BadSource
from readagain.formats import is_format
from readagain.sorts import is_sort
from readagain.sources import format_text, read_format, read_sort, sort_text
from tests.grammar import MORE_PIECES, NO_PIECES, format_rule, joined, sort_rule, split, spoiled, told_by
from tests.making import DIGITS, FIGURES, INT, LOOSE, PRICE, TIGHT, WORD, some_pair
from tests.test_machines import ENDLESS, FINITE

PLAIN = ("plain",)


def wrong(call):
    """(line, column) of BadSource, or the error that is raised instead; None for none."""
    try:
        call()
    except BadSource as error:
        return (error.line, error.column)
    except (BadSort, BadFormat) as error:
        return type(error)
    return None


class Sorts(unittest.TestCase):
    def test_examples(self):
        self.assertEqual((read_format(PRICE, 'row (figures 10 "-", pad 2 "0" ">" figures 10 "-")') == TIGHT, sort_text(PRICE)),
                         (True, "row (int 0.., int 0..99)"))

    def test_each_kind(self):
        for text, sort in (
                ("int 0..99", DIGITS), ("int ..", INT), ("int 0..", ("int", 0, None)), ("int ..5", ("int", None, 5)), ("int -7..-3", ("int", -7, -3)),
                ("int-7..-3", ("int", -7, -3)), ("int0..0", ("int", 0, 0)), ("int -999999999..999999999", ("int", -999999999, 999999999)),
                ('word "ab" 0..2', WORD), ('word"ab"0..', ("word", "ab", 0, None)), ('word "\\"\\\\" 1..12', ("word", '"\\', 1, 12)), ("one 12", ("one", 12)),
                ("maybe one 3", ("maybe", ("one", 3))), ("many 0.. one 3", ("many", ("one", 3), 0, None)), ("many 2..3 one 3", ("many", ("one", 3), 2, 3)),
                ("row ()", ("row", ())), ("row()", ("row", ())), ("row (one 1)", ("row", (("one", 1),))),
                ("row (one 1, int .., maybe one 2)", ("row", (("one", 1), INT, ("maybe", ("one", 2))))), ("case (one 1,row(),int..)", ("case", (("one", 1), ("row", ()), INT))),
                ('many 1.. case (row (int ..), word " #" 0..)', ("many", ("case", (("row", (INT,)), ("word", " #", 0, None))), 1, None)),
                ("\n# a remark\n  int # int 0..\n 0\n..\n\n99#", DIGITS), ("#%\u00e4\t\nint ..#", INT), ("int .. # %", INT)):
            with self.subTest(text):
                self.assertEqual(read_sort(text), sort)
                self.assertEqual(read_sort(sort_text(sort)), sort)

    def test_drawn_sorts(self):
        rng = random.Random(251)
        for _ in range(300):
            sort = some_pair(rng, True, rng.choice((1, 2, 3, 4)))[0]
            text = sort_text(sort)
            self.assertEqual(read_sort(text), sort)
            for _ in range(3):
                self.assertEqual(read_sort(joined(rng, split(text), True)), sort)

    def test_as_large_as_may_be(self):
        for sort in (("row", (("row", (("row", (INT,) * 4),) * 2), INT, INT, INT)), ("many", ("maybe", ("many", INT, 8, 12)), 0, None)):
            self.assertTrue(is_sort(sort))
            self.assertEqual(read_sort(sort_text(sort)), sort)

    def test_what_is_no_sort(self):
        for text, thing in (
                ("case ()", ("case", ())), ("int 5..3", ("int", 5, 3)), ('word "ba" 0..2', ("word", "ba", 0, 2)), ('word "" 0..2', ("word", "", 0, 2)),
                ("one 0", ("one", 0)), ("one 13", ("one", 13)), ("one -1", ("one", -1)), ("many 9.. one 1", ("many", ("one", 1), 9, None)),
                ("many 3..2 one 1", ("many", ("one", 1), 3, 2)), ("maybe maybe maybe maybe one 1", ("maybe", ("maybe", ("maybe", ("maybe", ("one", 1)))))),
                ("row (" + ", ".join(["one 1"] * 7) + ")", ("row", (("one", 1),) * 7)), ("maybe case ()", ("maybe", ("case", ())))):
            with self.subTest(text), self.assertRaises(BadSort) as caught:
                read_sort(text)
            self.assertEqual(caught.exception.thing, thing)

    def test_however_deep(self):
        for text in ("maybe " * 20000 + "one 1", "row (" * 20000 + ")" * 20000, "many 0.." * 20000 + "int .."):
            self.assertIs(wrong(lambda: read_sort(text)), BadSort)
            self.assertEqual(wrong(lambda: read_sort(text + ")")), (1, len(text) + 1))
            self.assertEqual(wrong(lambda: read_sort(text + " # x\n  x")), (2, 3))


class Formats(unittest.TestCase):
    def test_each_kind(self):
        figures = ("figures", 10, "-", 3, 3, ",", "0x")
        for sort, text, format in (
                (INT, 'figures 10 "-"', FIGURES), (INT, 'figures 10 "-" least 3 group 3 "," ahead "0x"', figures),
                (INT, 'figures10"-"least3group3","ahead"0x"', figures), (INT, 'figures 16 " " ahead ""', ("figures", 16, " ", 1, 0, "", "")),
                (INT, 'figures 2 "+" least 1 group 0 ""', ("figures", 2, "+", 1, 0, "", "")), (INT, 'figures 2 "+" least 12', ("figures", 2, "+", 12, 0, "", "")),
                (INT, 'figures 2 "+" group 4 "\\""', ("figures", 2, "+", 1, 4, '"', "")), (DIGITS, 'powers 10 "+"', ("powers", 10, "+")),
                (WORD, "plain", PLAIN), (WORD, 'spelled ("a" "x", "b" "y")', ("spelled", (("a", "x"), ("b", "y")))), (WORD, "spelled ()", ("spelled", ())),
                (WORD, 'spelled("a""x")', ("spelled", (("a", "x"),))), (WORD, "quoted \"'\" \"!\"", ("quoted", "'", "!")),
                (WORD, 'quoted "\\"" "\\\\"', ("quoted", '"', "\\")), (("one", 2), 'names ("no", "yes")', ("names", ("no", "yes"))),
                (("maybe", INT), 'maybe "none" figures 10 "-"', ("maybe", "none", FIGURES)),
                (PRICE, 'row ("x=", figures 10 "-", figures 10 "-")', ("row", ("x=", (0, FIGURES), (1, FIGURES)))),
                (PRICE, 'row (figures 10 "-" , "a", "b", figures 10 "-", "c")', ("row", ((0, FIGURES), "a", "b", (1, FIGURES), "c"))),
                (("row", ()), "row ()", ("row", ())), (("row", ()), 'row ("a")', ("row", ("a",))),
                (("many", WORD, 0, 2), 'many "none" "(" ";" ")" plain', ("many", "none", "(", ";", ")", PLAIN)),
                (("case", (WORD, WORD)), "case (plain, skip)", ("case", (PLAIN, ("skip",)))), (INT, 'pad 5 "0" ">" figures 10 "-"', ("pad", 5, "0", ">", FIGURES)),
                (INT, 'cut 3 figures 10 "-"', ("cut", 3, FIGURES)), (INT, 'checked 11 3 figures 10 "-"', ("checked", 11, 3, FIGURES)),
                (INT, "skip", ("skip",)), (INT, "# skip\n skip # skip", ("skip",))):
            with self.subTest(text):
                self.assertEqual(read_format(sort, text), format)
                self.assertEqual(read_format(sort, format_text(format)), format)

    def test_drawn_formats(self):
        rng = random.Random(252)
        for sort, format in ENDLESS + FINITE + [some_pair(rng, True, rng.choice((1, 2, 3, 4))) for _ in range(300)]:
            text = format_text(format)
            self.assertEqual(read_format(sort, text), format)
            for _ in range(3):
                self.assertEqual(read_format(sort, joined(rng, split(text), True)), format)

    def test_what_is_no_format(self):
        for sort, text, thing in (
                (WORD, 'figures 10 "-"', FIGURES), (INT, "plain", PLAIN), (INT, 'figures 1 "-"', ("figures", 1, "-", 1, 0, "", "")),
                (INT, 'figures -10 "-"', ("figures", -10, "-", 1, 0, "", "")), (INT, 'powers 10 "-"', ("powers", 10, "-")),
                (INT, 'figures 10 "-" group 0 ","', ("figures", 10, "-", 1, 0, ",", "")), (("one", 2), "names ()", ("names", ())),
                (("one", 2), 'names ("a")', ("names", ("a",))), (PRICE, 'row (figures 10 "-")', ("row", ((0, FIGURES),))),
                (PRICE, "row ()", ("row", ())), (("row", ()), 'row ("")', ("row", ("",))), (("row", (INT,)), "row (skip, skip)", ("row", ((0, ("skip",)), (1, ("skip",))))),
                (WORD, 'spelled ("b" "x", "a" "y")', ("spelled", (("b", "x"), ("a", "y")))), (("case", (INT,)), "case ()", ("case", ())),
                (INT, 'pad 9 "0" ">" skip', ("pad", 9, "0", ">", ("skip",))), (INT, "checked 17 3 skip", ("checked", 17, 3, ("skip",))),
                (INT, "cut 0 " * 7 + "skip", None)):
            with self.subTest(text), self.assertRaises(BadFormat) as caught:
                read_format(sort, text)
            if thing is not None:
                self.assertEqual(caught.exception.thing, thing)

    def test_however_deep(self):
        for text in ("cut 3 " * 20000 + "skip", "case (" * 20000 + ")" * 20000, 'row ("a", ' * 20000 + "skip" + ")" * 20000):
            self.assertIs(wrong(lambda: read_format(INT, text)), BadFormat)
            self.assertEqual(wrong(lambda: read_format(INT, text + ",")), (1, len(text) + 1))
            self.assertEqual(wrong(lambda: read_format(INT, text[:-1] + "A")), (1, len(text)))

    def test_other_things_than_sources(self):
        for text in ("int ..", "one 3", "least 3", "none", "(figures)", '"a"', "7"):
            self.assertEqual(wrong(lambda: read_format(INT, text)), (1, 1))
        for text in ("figures", "plain", "skip", "x", "()", '"int"', "..", "7"):
            self.assertEqual(wrong(lambda: read_sort(text)), (1, 1))


class WrongPieces(unittest.TestCase):
    def right(self, rule, text, call, error):
        """Whether a text is read as another reader reads it, or refused at the same place."""
        told = told_by(rule, text, 9)
        if type(told) is list:
            self.assertEqual(wrong(lambda: call(text)), tuple(told), text)
            return "wrong"
        try:
            self.assertEqual(call(text), told, text)
            return "read"
        except error as caught:
            self.assertEqual(caught.thing, told)
            return "bad"

    def spoil(self, rng, text, rule, call, error):
        pieces = split(text)
        found = []
        for _ in range(12):
            changed = spoiled(rng, pieces, MORE_PIECES if rng.random() < 0.8 else NO_PIECES)
            if rng.random() < 0.2:
                changed = spoiled(rng, changed or pieces, MORE_PIECES + NO_PIECES)
            found.append(self.right(rule, joined(rng, changed, rng.random() < 0.5), call, error))
        cut = joined(rng, pieces, True)
        found.append(self.right(rule, cut[:rng.randrange(len(cut) + 1)], call, error))
        at = rng.randrange(len(cut) + 1)
        found.append(self.right(rule, cut[:at] + rng.choice('"\\%(),.-# \n0a\t') + cut[at:], call, error))
        return found

    def test_drawn_sorts(self):
        rng = random.Random(253)
        found = []
        for _ in range(600):
            sort = some_pair(rng, True, rng.choice((1, 2, 3)))[0]
            found += self.spoil(rng, sort_text(sort), sort_rule, read_sort, BadSort)
        self.assertGreater(min(found.count(kind) for kind in ("wrong", "read", "bad")), 30)

    def test_drawn_formats(self):
        rng = random.Random(254)
        found = []
        for _ in range(600):
            sort, format = some_pair(rng, True, rng.choice((1, 2, 3)))
            found += self.spoil(rng, format_text(format), format_rule, lambda text: read_format(sort, text), BadFormat)
        self.assertGreater(min(found.count(kind) for kind in ("wrong", "read", "bad")), 30)

    def test_places_of_sorts(self):
        for text, place in (
                ("", (1, 1)), (" ", (1, 2)), ("\n", (2, 1)), ("int", (1, 4)), ("int ", (1, 5)), ("int\n", (2, 1)), ("int # more", (1, 11)),
                ("int # more\n", (2, 1)), ("# int ..", (1, 9)), ("int 5", (1, 6)), ("int 5 7", (1, 7)), ("int .. ..", (1, 8)), ("int ..5 7", (1, 9)),
                ("int 007..", (1, 5)), ("int 5..-0", (1, 8)), ("int 1234567890..", (1, 5)), ("int ..1234567890", (1, 7)), ("int -1234567890..", (1, 5)),
                ("int -..", (1, 5)), ("int - 5..", (1, 5)), ("int .", (1, 5)), ("int ...", (1, 7)), ("int . .", (1, 5)), ("int 1.5", (1, 6)),
                ("Int ..", (1, 1)), ("int_ ..", (1, 4)), ("ints ..", (1, 1)), ("int ..\n\nx", (3, 1)), ("int ..\n  \n # x\n  x", (4, 3)),
                ('word "ab', (1, 9)), ('word "ab # 0..\n"', (1, 15)), ('word "a\\b" 0..', (1, 9)), ('word "a%" 0..', (1, 8)), ('word "a\tb" 0..', (1, 8)),
                ('word "ab\\', (1, 10)), ('word "ab\\\n" 0..', (1, 10)), ('word "ab" ..5', (1, 11)), ('word "ab"', (1, 10)), ('word "ab" 5', (1, 12)),
                ('word 0..5', (1, 6)), ('word ab 0..5', (1, 6)), ("one", (1, 4)), ('one "a"', (1, 5)), ("one 3 3", (1, 7)), ("maybe", (1, 6)),
                ("maybe (one 3)", (1, 7)), ("many ..5 one 3", (1, 6)), ("many 0 one 3", (1, 8)), ("many 0..", (1, 9)), ("many 0..5", (1, 10)), ("many 0..5 5", (1, 11)),
                ("row", (1, 4)), ("row (", (1, 6)), ("row (,)", (1, 6)), ("row (one 3", (1, 11)), ("row (one 3,", (1, 12)), ("row (one 3,)", (1, 12)),
                ("row (one 3 one 3)", (1, 12)), ("row (one 3))", (1, 12)), ("row one 3", (1, 5)), ('row ("a", one 3)', (1, 6)), ("row ()\n\n  ()", (3, 3)),
                # All pieces are looked at ahead of what they tell.
                ("x 007", (1, 3)), ("row row\n\n (%", (3, 3)), ("int .. int .. \"", (1, 16)), ("case () A", (1, 9)), ("case () x", (1, 9)), ("case (", (1, 7)),
                ("int 5..3 5", (1, 10)), ("one 99 one", (1, 8))):
            with self.subTest(text):
                self.assertEqual(wrong(lambda: read_sort(text)), place)
                self.assertEqual(told_by(sort_rule, text, 9), list(place))

    def test_places_of_formats(self):
        for text, place in (
                ("figures", (1, 8)), ("figures 10", (1, 11)), ('figures "-" 10', (1, 9)), ('figures 10 "-" least', (1, 21)), ('figures 10 "-" least "a"', (1, 22)),
                ('figures 10 "-" group 3', (1, 23)), ('figures 10 "-" group 3 least 3', (1, 24)), ('figures 10 "-" group "," 3', (1, 22)),
                ('figures 10 "-" group 3 "," least 3', (1, 28)), ('figures 10 "-" ahead "x" group 3 ","', (1, 26)), ('figures 10 "-" least 3 least 3', (1, 24)),
                ('figures 10 "-" ahead x', (1, 22)), ('figures 10 "-" 3', (1, 16)), ('figures 10 "-" most 3', (1, 16)), ("powers 10", (1, 10)), ('powers 10 "-" least 3', (1, 15)),
                ('plain "a"', (1, 7)), ("skip skip", (1, 6)), ("spelled", (1, 8)), ('spelled ("a")', (1, 13)), ('spelled ("a" "b" "c")', (1, 18)), ('spelled ("a" "b",)', (1, 18)),
                ('spelled "a" "b"', (1, 9)), ("spelled (,)", (1, 10)), ('quoted "a"', (1, 11)), ('quoted "a" "b" "c"', (1, 16)), ('names "a"', (1, 7)), ('names ("a" "b")', (1, 12)),
                ('names ("a",', (1, 12)), ("names (a)", (1, 8)), ("maybe skip", (1, 7)), ('maybe "a"', (1, 10)), ('row ("a" skip)', (1, 10)), ('row ("a", 5)', (1, 11)),
                ('row ("a" "b")', (1, 10)), ("row (skip,", (1, 11)), ("row skip", (1, 5)), ('many "a" "b" "c" skip', (1, 18)), ('many "a" "b" "c" "d" "e" skip', (1, 22)),
                ('case ("a", skip)', (1, 7)), ('case (maybe "a" "b")', (1, 17)), ('row (maybe "a" "b")', (1, 16)), ('row (case ("b"))', (1, 12)), ('pad "0" 5 ">" skip', (1, 5)),
                ('pad 5 "0" skip', (1, 11)), ('pad 5 "0" ">"', (1, 14)), ("cut skip", (1, 5)), ("cut 3", (1, 6)), ("cut 3 3 skip", (1, 7)), ("checked 11 skip", (1, 12)),
                ("checked 11 3", (1, 13)), ("cut 3\nskip\nskip", (3, 1)), ("skip # )\n)", (2, 1)), ('plain 1 "', (1, 10))):
            with self.subTest(text):
                self.assertEqual(wrong(lambda: read_format(WORD, text)), place)
                self.assertEqual(told_by(format_rule, text, 9), list(place))

    def test_things_that_are_no_strings(self):
        for thing in (None, 7, True, b"int ..", ["int .."], ("int", None, None), {}, 1.5):
            with self.subTest(repr(thing)):
                self.assertEqual(wrong(lambda: read_sort(thing)), (0, 0))
                self.assertEqual(wrong(lambda: read_format(INT, thing)), (0, 0))

    def test_which_comes_first(self):
        self.assertEqual(wrong(lambda: read_sort("int 5..3 #\n")), BadSort)
        self.assertEqual(wrong(lambda: read_sort("int 5..3 )")), (1, 10))
        self.assertEqual(wrong(lambda: read_sort("int 5..3 ) %")), (1, 12))
        self.assertEqual(wrong(lambda: read_format(INT, "plain")), BadFormat)
        self.assertEqual(wrong(lambda: read_format(INT, "plain )")), (1, 7))
        self.assertEqual(wrong(lambda: read_format(INT, "plain ) \"")), (1, 10))

    def test_each_piece_of_no_kind(self):
        for thing in NO_PIECES:
            for text in (thing, "int .. " + thing, "one 3\n " + thing + " int"):
                self.assertEqual(wrong(lambda: read_sort(text)), tuple(told_by(sort_rule, text, 9)), text)


class Texts(unittest.TestCase):
    def test_signs_between_quotes(self):
        signs = "".join(chr(code) for code in range(32, 127) if chr(code) != "%")
        for at in range(0, len(signs), 4):
            format = ("many", signs[at:at + 4], "", "\\\"", "#", PLAIN)
            sort = ("many", WORD, 0, 2)
            self.assertTrue(is_format(sort, format))
            self.assertEqual(read_format(sort, format_text(format)), format)

    def test_equal_answers(self):
        told = read_format(PRICE, format_text(TIGHT))
        self.assertEqual((told, read_format(PRICE, format_text(LOOSE)), read_format(PRICE, format_text(TIGHT))), (TIGHT, LOOSE, TIGHT))


if __name__ == "__main__":
    unittest.main()
