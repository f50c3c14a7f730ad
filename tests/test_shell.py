"""[36] The shell."""

import random
import unittest

from readagain.alike import compared
from readagain.alone import standing
from readagain.counting import how_many, lengths, value_at
from readagain.errors import (
    BadDeed, BadFormat, BadPair, BadSort, BadSource, BadText, BadThing, FormatError, ManyValues, TooLarge)
from readagain.mending import corrected
from readagain.nearest import nearest
from readagain.plainvalues import value_text
from readagain.reading import read, values_of
from readagain.reports import report
from readagain.resync import resync
from readagain.shelves import Shelf
from readagain.shell import Shell, described, run_lines
from readagain.slips import slips, swaps
from readagain.sources import format_text, sort_text
from readagain.streams import lookahead
from readagain.sure import rewritten, sure_marks
from readagain.verdicts import verdict
from readagain.writing import write
from tests.grammar import (
    MORE_PIECES, NO_PIECES, NUMBER, TEXT, either, format_rule, joined, row, split, spoiled, told_by, value_rule, word)
from tests.making import DIGITS, FIGURES, INT, LOOSE, PADDED, PRICE, TIGHT, TWO, WORD, some_format, some_pair, some_value
from tests.test_reports import MANY_LOTS
from tests.test_shelves import own_shelf, some_deed, some_shelved, written_told

HUGE = ("checked", 16, 5, FIGURES)
PLAIN = ("plain",)
QUOTED = ("quoted", "'", "!")
BARE_LINES = ("verdict", "alone", "swaps", "late", "lost", "slips", "lengths", "report", "undo", "redo", "names", "log")


def in_quotes(text):
    return '"' + text.replace("\\", "\\\\").replace('"', '\\"') + '"'


def as_answer(call):
    """What a call answers, errors as they are answered."""
    try:
        return call()
    except BadText as error:
        return f"no text, at {error.place}"
    except ManyValues:
        return "several values"
    except BadDeed:
        return "no"
    except (BadFormat, BadThing, BadPair):
        return "not so"
    except TooLarge:
        return "too large"


def reported(what):
    if what is True or what is False:
        return "yes" if what else "no"
    if type(what) is tuple:
        return f"{what[0]}.." + ("" if what[1] is None else str(what[1]))
    return "none" if what is None else str(what)


def mended(told):
    if told[0] is None:
        return "none"
    return f"wrong {told[0]}" + (" sure" if told[1] is not None and len(told[1]) == 1 else "")


def numbered(told, names):
    return f"{told[0]} {told[1]}" if told[0] in names else told[0]


def values_told(sort, values):
    return "endless" if values is None else "; ".join(value_text(sort, value) for value in values)


def told_line(sort, format, line):
    """What a line that asks no shelf is answered, by the functions of which it speaks."""
    name, told = line[0], line[1:]
    calls = {
        "verdict": lambda: verdict(sort, format)[0], "alone": lambda: standing(sort, format)[0], "swaps": lambda: swaps(sort, format)[0],
        "late": lambda: numbered(lookahead(sort, format), ("known",)), "lost": lambda: numbered(resync(sort, format), ("settled",)),
        "slips": lambda: numbered(slips(sort, format), ("slips",)), "lengths": lambda: "lengths " + reported(lengths(sort, format)),
        "report": lambda: "; ".join(f"{word} {reported(what)}" for word, what in report(sort, format)),
        "write": lambda: in_quotes(write(sort, format, told[0])), "read": lambda: value_text(sort, read(sort, format, told[0])),
        "values": lambda: values_told(sort, values_of(sort, format, told[0])), "sure": lambda: " ".join(("sure",) + sure_marks(sort, format, told[0])),
        "nearest": lambda: f"changes {nearest(sort, format, told[0])[0]}", "mend": lambda: mended(corrected(sort, format, told[0])),
        "count": lambda: f"count {how_many(sort, format, told[0])}", "nth": lambda: value_text(sort, value_at(sort, format, told[0])),
        "alike": lambda: compared(sort, format, told[0])[0], "rewrite": lambda: in_quotes(rewritten(sort, format, told[1], told[0]))}
    return as_answer(calls[name])


def line_text(sort, line):
    """The text of a line, given by its word and what stands behind it."""
    told = []
    for at, part in enumerate(line[1:]):
        if line[0] == "write" or line[0] == "put" and at == 1:
            told.append(value_text(sort, part))
        elif type(part) is tuple:
            told.append(format_text(part))
        else:
            told.append(in_quotes(part) if type(part) is str else str(part))
    return " ".join([line[0]] + told)


def some_line(rng, sort, format):
    """A line that asks no shelf, as its word and what stands behind it."""
    value = some_value(rng, sort)
    text = write(sort, format, value)[:60]
    if rng.random() < 0.4 and text:
        at = rng.randrange(len(text))
        text = rng.choice((text[:at], text[:at] + rng.choice("01ab-x\"\\") + text[at + 1:], text + "x"))
    other = rng.choice((format, ("pad", 2, "0", ">", format), some_format(rng, sort, 4)))
    name = rng.choice(BARE_LINES[:8] + ("write", "read", "values", "sure", "nearest", "mend", "count", "nth", "alike", "rewrite") * 2)
    behind = {"write": (value,), "count": (rng.choice((0, 1, 2, 3, 200, 201, -1)),), "nth": (rng.choice((0, 1, 5, 1000, 1001, -1)),),
              "alike": (other,), "rewrite": (text, other)}
    return (name,) + behind.get(name, () if name in BARE_LINES else (text,))


def line_rule(sort):
    """The rule for all lines."""
    value = value_rule(sort)
    return either(*[row(lambda *told: told, word(name)) for name in BARE_LINES],
                  *[row(lambda *told: told, word(name), TEXT) for name in ("read", "values", "sure", "nearest", "mend", "take", "tell")],
                  *[row(lambda *told: told, word(name), NUMBER) for name in ("count", "nth", "torn")],
                  row(lambda *told: told, word("write"), value), row(lambda *told: told, word("alike"), format_rule),
                  row(lambda *told: told, word("rewrite"), TEXT, format_rule), row(lambda *told: told, word("put"), TEXT, value),
                  row(lambda *told: told, word("move"), TEXT, TEXT))


class Lines(unittest.TestCase):
    def test_examples(self):
        self.assertEqual(
            run_lines("int 0..99 figures 10 \"-\" least 2", ["verdict", "write 7", "read \"7\"", "put \"a\" 5", "tell \"a\"", "slips", "late", "what"]),
            ["readable", '"07"', "no text, at 1", "done 1", "5", "slips 1", "known 0", "what? 1"])

    def answers(self, sort, format, pairs):
        shell = Shell(described(sort, format))
        for line, answer in pairs:
            with self.subTest((sort, format, line)):
                self.assertEqual(shell.answer(line), answer)
        self.assertEqual(run_lines(described(sort, format), [line for line, _ in pairs]), [answer for _, answer in pairs])

    def test_each_kind(self):
        self.answers(DIGITS, TWO, (
            ("verdict", "readable"), ("alone", "alone"), ("swaps", "swapped"), ("late", "known 0"), ("lost", "lost"), ("slips", "slips 1"), ("lengths", "lengths 2..2"),
            ("report", "places 26; values 100; lengths 2..2; readable yes; alone yes; late 0; end none; slips 1; swaps no"), ("write 99", '"99"'),
            ('read "07"', "7"), ('values "07"', "7"), ('values "7"', ""), ('values "x"', ""), ('sure "1"', "sure plus figure 1"), ('sure ""', "sure plus"), ('sure "07"', "sure plus figure 7 stop"),
            ('sure "123"', "no text, at 2"), ('nearest "123"', "changes 1"), ('nearest ""', "changes 2"), ('mend "x7"', "wrong 1"), ('mend "17"', "wrong 0 sure"), ('mend "1"', "none"),
            ("count 2", "count 100"), ("count 1", "count 0"), ("count 201", "not so"), ("nth 12", "22"), ("nth 0", "10"), ("nth 99", "9"), ("nth 100", "not so"), ("nth -1", "not so"),
            ('alike pad 2 "0" ">" figures 10 "-"', "alike"), ('alike figures 10 "-"', "unlike"), ('alike figures 16 "-"', "not so"), ("alike plain", "not so"),
            ('alike pad 9 "0" ">" figures 10 "-"', "not so"), ('rewrite "07" cut 9 figures 10 "-"', "not so"), ('rewrite "7" cut 9 figures 10 "-"', "not so"),
            ('rewrite "07" figures 10 "-" ahead "\\""', '"\\"7"'), ('rewrite "7" figures 10 "-"', "no text, at 1"), ('rewrite "x" figures 16 "-"', "not so"), ('rewrite "x" plain', "not so")))
        self.answers(PRICE, LOOSE, (
            ("verdict", "twins"), ("alone", "begins"), ("lengths", "not so"), ("count 2", "not so"), ("nth 2", "not so"), ('read "123"', "several values"), ('values "123"', "(12, 3); (1, 23)"),
            ("late", "endless"), ("slips", "slips 0"), ("write (12, 3)", '"123"'), ('rewrite "123" skip', "several values"), ('mend "123"', "wrong 0"), ('put "a" (1, 2)', "not so"), ("names", "not so"), ("log", "not so"),
            ("undo", "not so"), ('tell "a"', "not so"), ("torn 0", "not so")))
        self.answers(INT, ("skip",), (
            ('read ""', "several values"), ('values ""', "endless"), ("late", "not so"), ("lost", "not so"), ('sure ""', "sure"), ('mend ""', "wrong 0"), ("swaps", "safe"), ("write 5", '""')))
        self.answers(("one", 2), ("names", ("a;", "bb;")), (("lost", "settled 3"), ("slips", "never"), ("lengths", "lengths 2..3"), ("swaps", "safe"), ('mend "cc;"', "wrong 2 sure"), ('mend "c;"', "wrong 1 sure")))
        self.answers(PRICE, TIGHT, (("lengths", "lengths 3.."), ("late", "endless"), ("nth 123", "(1, 33)"), ('mend "ab7"', "wrong 2")))
        self.answers(*MANY_LOTS, (("lost", "too large"), ("late", "known 0")))
        self.answers(INT, HUGE, tuple((line, "too large") for line in BARE_LINES + ('read "7"', 'values "7"', 'sure "7"', 'nearest "7"', 'mend "7"', "count 2", "nth 2", 'alike figures 10 "-"',
                                                                                     'rewrite "7" skip', 'put "a" 5', 'tell "a"', "torn 1")) + (("write 7", in_quotes(write(INT, HUGE, 7))),))
        self.answers(("word", "ab", 0, None), ("cut", 3, PLAIN), (('values "aba"', "endless"), ('values "ab"', '"ab"'), ('read "aba"', "several values")))
        self.answers(("word", "abcdefghijkl", 0, 3), ("skip",), (('values ""', "too large"), ('mend ""', "too large"), ('mend "a"', "none")))

    def test_drawn_lines(self):
        rng = random.Random(301)
        kinds = {}
        for _ in range(120):
            sort, format = some_pair(rng, True, rng.choice((1, 2)))
            shell = Shell(described(sort, format))
            for _ in range(6):
                line = some_line(rng, sort, format)
                text = line_text(sort, line)
                with self.subTest((sort, format, text)):
                    answer = shell.answer(joined(rng, split(text), False))
                    self.assertEqual(answer, told_line(sort, format, line))
                    self.assertEqual(shell.answer(text + " # more"), answer)
                    kinds[(line[0], answer.split(" ")[0])] = True
        self.assertGreater(len(kinds), 60)
        self.assertGreaterEqual({answer for _, answer in kinds}, {"no", "not", "several", "too", "endless", "alike", "unlike", "none", "wrong", "changes"})

    def test_spoiled_lines(self):
        rng = random.Random(302)
        found = {True: 0, False: 0}
        words = list(BARE_LINES + ("write", "read", "values", "sure", "nearest", "mend", "count", "nth", "alike", "rewrite", "put", "take", "move", "torn", "tell"))
        for _ in range(300):
            sort, format = some_shelved(rng) if rng.random() < 0.3 else some_pair(rng, True, rng.choice((1, 2)))
            shell, rule = Shell(described(sort, format)), line_rule(sort)
            line = rng.choice((some_line(rng, sort, format), ("put", "a", some_value(rng, sort)), ("move", "a", "b"), ("take", "a"), ("torn", 1), ("tell", "a")))
            pieces = split(line_text(sort, line))
            for _ in range(6):
                changed = spoiled(rng, pieces, rng.choice((MORE_PIECES, NO_PIECES, words, pieces)))
                text = joined(rng, changed, False) + rng.choice(("", "", " # \"", "#"))
                told = told_by(rule, text, 4000)
                answer = shell.answer(text)
                found[type(told) is list] += 1
                if type(told) is list:
                    self.assertEqual(answer, f"what? {told[1]}", (sort, text))
                else:
                    self.assertFalse(answer.startswith("what?"), (sort, text, answer))
        self.assertGreater(min(found.values()), 30)

    def test_wrong_lines(self):
        shell = Shell(described(DIGITS, TWO))
        for line, column in (
                ("", 1), ("   ", 4), ("# verdict", 10), ("what", 1), ("  what 7", 3), ('"verdict"', 1), ("7", 1), ("(", 1), ("verdict 7", 9), ("verdict verdict", 9), ("Verdict", 1), ("write", 6),
                ("write 100", 7), ("write -1", 7), ('write "7"', 7), ("write 7 7", 9), ("write 07", 7), ("read", 5), ("read 7", 6), ('read "7', 8), ('read "7" "7"', 10), ('read "a\\b"', 9),
                ('read "%"', 7), ("count", 6), ('count "2"', 7), ("count 2 2", 9), ("nth x", 5), ("alike", 6), ("alike x", 7), ('alike figures "-" 10', 15), ('alike figures 10 "-" 10', 22),
                ("rewrite skip", 9), ('rewrite "07"', 13), ('rewrite "07" skip skip', 19), ("put", 4), ("put a 5", 5), ('put "a"', 8), ('put "a" 100', 9), ('put "a" 5 5', 11), ('take "a" "b"', 10), ("take a", 6),
                ('move "a"', 9), ('move "a" b', 10), ("undo 1", 6), ("redo undo", 6), ('torn "1"', 6), ("torn", 5), ("tell 5", 6), ("names names", 7), ("log 5", 5), ("int 0..99", 1), ("write # 7", 10),
                # All pieces are looked at ahead of what they tell.
                ("what 007", 6), ('verdict 7 "', 12), ("write 100 %", 11), ("verdict . ", 9), ("x" * 300 + " 5 -", 304)):
            with self.subTest(line):
                self.assertEqual(shell.answer(line), f"what? {column}")
        for thing in (None, 7, b"verdict", ["verdict"], ("verdict",)):
            self.assertEqual(shell.answer(thing), "what? 0")
        self.assertEqual(shell.answer("verdict\n what"), "what? 2")
        self.assertEqual(shell.answer("log"), 'log ""')

    def test_a_wrong_line_is_told_ahead_of_all_else(self):
        self.assertEqual(Shell(described(INT, HUGE)).answer("report 7"), "what? 8")
        self.assertEqual(Shell(described(INT, HUGE)).answer('put "a" x'), "what? 9")
        self.assertEqual(Shell(described(PRICE, LOOSE)).answer("undo undo"), "what? 6")
        self.assertEqual(Shell(described(DIGITS, TWO)).answer("alike plain 7"), "what? 13")

    def test_long_numbers(self):
        shell = Shell(described(INT, FIGURES))
        figures = "7" * 4000
        self.assertEqual(shell.answer("write " + figures), f'"{figures}"')
        self.assertEqual(shell.answer("write -" + figures), f'"-{figures}"')
        self.assertEqual(shell.answer(f'read "{figures}"'), figures)
        self.assertEqual(shell.answer(f'read "{figures * 2}"'), figures * 2)
        self.assertEqual(shell.answer("write " + figures + "7"), "what? 7")
        self.assertEqual(shell.answer("count " + figures), "not so")
        self.assertEqual(shell.answer("torn " + figures), "not so")
        self.assertEqual(shell.answer(f'alike figures {figures} "-"'), "not so")
        self.assertEqual(shell.answer(f'alike figures {figures}7 "-"'), "what? 15")
        self.assertEqual(shell.answer(f'put "a" {figures}'), "done 1")
        self.assertEqual(shell.answer('tell "a"'), figures)


class ShelfLines(unittest.TestCase):
    def test_nothing_was_put(self):
        self.assertEqual(run_lines(described(DIGITS, TWO), ["names", "log", "torn 0", "undo", "redo", 'tell "a"', 'take "a"', 'move "a" "b"', "torn 1", "torn -1", "names"]),
                         ["names", 'log ""', "done 0", "no", "no", "not so", "no", "no", "not so", "not so", "names"])

    def test_put_and_taken(self):
        self.assertEqual(
            run_lines(described(DIGITS, TWO), ['put "b" 7', 'put "a" 12', "names", 'tell "a"', 'move "b" "c"', "names", 'move "a" "c"', "undo", "redo", "redo", 'take "a"', "names", "undo", "log", "torn 1", "names",
                                               'tell "a"', 'tell "b"', "torn 99", "torn 12", "log", "undo", "undo", "names", "redo", "log"]),
            ["done 1", "done 2", "names a b", "12", "done 3", "names a c", "no", "done 4", "done 5", "no", "done 6", "names c", "done 7", 'log "+b=07;+a=12;>b:c;<;!;-a;<;"', "done 6", "names c",
             "not so", "not so", "not so", "done 2", 'log "+b=07;+a=12;"', "done 3", "done 4", "names", "done 5", 'log "+b=07;+a=12;<;<;!;"'])

    def test_names_that_are_none(self):
        self.assertEqual(run_lines(described(DIGITS, TWO), ['put "" 7', 'put "i" 7', 'put "A" 7', 'put "a b" 7', 'put "a" 7', 'move "a" ""', 'move "a" "z"', 'tell ""', 'tell "z"', 'take ""', "log"]),
                         ["no", "no", "no", "no", "done 1", "no", "no", "not so", "not so", "no", 'log "+a=07;"'])

    def test_quotes_in_logs(self):
        sort, format = ("word", '"\\', 0, None), ("quoted", "'", "!")
        self.assertEqual(run_lines(described(sort, format), ['put "a" "\\"\\\\"', "log", 'tell "a"', 'write "\\\\"']), ["done 1", 'log "+a=\'\\"\\\\\';"', '"\\"\\\\"', '"\'\\\\\'"'])

    def test_drawn_deeds(self):
        rng = random.Random(303)
        for _ in range(30):
            sort, format = some_shelved(rng)
            shell, deeds = Shell(described(sort, format)), []
            for _ in range(10):
                kind, told = deed = some_deed(rng, sort)
                line = line_text(sort, (("put", "take", "move", "undo", "redo")[kind],) + told)
                own = own_shelf(deeds)
                if own.can(deed):
                    deeds.append(deed)
                self.assertEqual(shell.answer(line), f"done {len(deeds)}" if own.can(deed) else "no")
                values = own_shelf(deeds).values()
                self.assertEqual(shell.answer("names"), " ".join(["names"] + sorted(values)))
                for name in ("a", "b"):
                    self.assertEqual(shell.answer(f'tell "{name}"'), value_text(sort, values[name]) if name in values else "not so")
                text = "".join(written_told(lambda value: write(sort, format, value), deed) for deed in deeds)
                self.assertEqual(shell.answer("log"), "log " + in_quotes(text))
                if rng.random() < 0.2 and text:
                    many = rng.randint(0, min(8, len(text)))
                    deeds = list(Shelf(sort, format, text[:len(text) - many]).log().entries)
                    self.assertEqual(shell.answer(f"torn {many}"), f"done {len(deeds)}")

    def test_each_shell_has_its_own_shelf(self):
        one, other = Shell(described(DIGITS, TWO)), Shell(described(DIGITS, TWO))
        one.answer('put "a" 5')
        self.assertEqual((one.answer("names"), other.answer("names")), ("names a", "names"))


class Shells(unittest.TestCase):
    def wrong(self, text):
        try:
            Shell(text)
        except BadSource as error:
            return (error.line, error.column)
        except FormatError as error:
            return (type(error), error.thing)
        return None

    def test_described(self):
        rng = random.Random(304)
        for _ in range(200):
            sort, format = some_pair(rng, True, rng.choice((1, 2, 3, 4)))
            text = described(sort, format)
            self.assertIs(type(text), str)
            value = some_value(rng, sort)
            for other in (text, joined(rng, split(text), True), sort_text(sort) + "\n" + format_text(format) + " # end"):
                self.assertEqual(Shell(other).answer("write " + value_text(sort, value)), in_quotes(write(sort, format, value)))

    def test_wrong_sources(self):
        for text, place in (
                ("", (1, 1)), ("int ..", (1, 7)), ("int ..\n", (2, 1)), ("int .. 7", (1, 9)), ("int 7", (1, 6)), ("x", (1, 1)), ("int .. x", (1, 8)), ('int .. figures 10 "-" int', (1, 23)),
                ('figures 10 "-"', (1, 1)), ("int .. skip skip", (1, 13)), ("int .. skip %", (1, 13)), ("int 5..3 skip )", (1, 15)), ("int ..\nplain # x\n\n)", (4, 1)), ("int .. int ..", (1, 8)),
                ("case () plain plain", (1, 15)), ("int ..1234567890 skip", (1, 7)), ('int .. figures 1234567890 "-"', (1, 16)), ("int 5..3", (1, 9))):
            with self.subTest(text):
                self.assertEqual(self.wrong(text), place)
                if place != (0, 0):
                    with self.assertRaises(BadSource):
                        run_lines(text, ["verdict"])
        for thing in (None, 7, b"int .. skip", ["int .. skip"]):
            self.assertEqual(self.wrong(thing), (0, 0))

    def test_no_sorts_and_no_formats(self):
        for text, told in (
                ("case () skip", (BadSort, ("case", ()))), ("int 5..3 plain", (BadSort, ("int", 5, 3))), ("case () case ()", (BadSort, ("case", ()))), ("int .. plain", (BadFormat, PLAIN)),
                ('int .. powers 10 "-"', (BadFormat, ("powers", 10, "-"))), ("int 0..9 cut 9 skip", (BadFormat, ("cut", 9, ("skip",))))):
            with self.subTest(text):
                self.assertEqual(self.wrong(text), told)

    def test_a_format_that_is_too_large_has_a_shell(self):
        self.assertIsNone(self.wrong(described(INT, HUGE)))

    def test_equal_answers(self):
        lines = ["report", 'put "a" 5', "late", "names", 'values "07"', "undo", "log"]
        told = run_lines(described(DIGITS, PADDED), lines)
        self.assertIs(type(told), list)
        run_lines(described(WORD, QUOTED), lines)
        told_again = run_lines(described(DIGITS, PADDED), lines)
        self.assertEqual(told_again, told)
        told.clear()
        self.assertEqual(run_lines(described(DIGITS, PADDED), lines), told_again)
        self.assertEqual(lines[0], "report")
        self.assertEqual(run_lines(described(DIGITS, PADDED), ()), [])


if __name__ == "__main__":
    unittest.main()
