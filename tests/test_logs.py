"""[32] Logs."""

import random
import unittest

from readagain.alone import is_alone, standing
from readagain.emptiness import can_be_empty
from readagain.errors import BadFormat, BadThing, TooLarge
from readagain.logs import Log
from readagain.machines import machine_of
from readagain.sorts import how_many_values
from readagain.writing import write
from tests.making import (
    DIGITS, FIGURES, INT, LOOSE, PADDED, PRICE, TIGHT, TWO, WORD, all_values, some_cut_many, some_format, some_pair, some_value, some_values)
from tests.test_machines import ENDLESS

HUGE = ("checked", 16, 5, FIGURES)
QUOTED = ("quoted", "'", "!")
WORDS = ("word", "ab'", 0, None)
# What can't be a number of things.
ODD_NUMBERS = (-1, True, False, None, "1", 1.0, (1,), [1], (), 10 ** 30)


def can_be_logged(sort, format):
    """Whether texts stand alone and none is empty, by the texts of all values."""
    texts = [write(sort, format, value) for value in all_values(sort)]
    return "" not in texts and not any(
        other.startswith(text) for at, text in enumerate(texts) for number, other in enumerate(texts) if at != number)


def some_loggable(rng, endless):
    """A sort and a format that can be logged."""
    while True:
        sort, format = some_pair(rng, endless, rng.choice((1, 2, 3)))
        if rng.random() < 0.5:
            sort, format = ("row", (sort,)), ("row", ((0, format), ";"))
        try:
            if not can_be_empty(sort, format) and standing(sort, format)[0] == "alone":
                return sort, format
        except TooLarge:
            pass


class Logs(unittest.TestCase):
    def is_like(self, log, sort, format, values, loose):
        """Whether a log has just these values, and this behind them."""
        texts = [write(sort, format, value) for value in values]
        self.assertEqual((log.entries, log.text, log.loose, len(log)), (tuple(values), "".join(texts), loose, len(values)))
        self.assertIs(type(log.entries), tuple)
        places = [(len("".join(texts[:at])), len("".join(texts[:at + 1]))) for at in range(len(texts))]
        self.assertEqual([log.place_of(at) for at in range(len(values))], places)
        for number in ODD_NUMBERS + (len(values), -len(values)):
            if number != 0 or number is False or not values:
                with self.assertRaises(BadThing) as caught:
                    log.place_of(number)
                self.assertIs(caught.exception.thing, number)

    def test_examples(self):
        log = Log(WORD, QUOTED, "'a''ab''b")
        self.assertEqual((log.entries, log.loose, log.torn(3).entries, log.place_of(1)), (("a", "ab"), "'b", ("a",), (3, 7)))

    def test_written(self):
        log = Log(WORD, QUOTED, "")
        self.is_like(log, WORD, QUOTED, [], "")
        for many, word in enumerate(("a", "", "ab", "a")):
            self.assertIsNone(log.write(word))
            self.is_like(log, WORD, QUOTED, ["a", "", "ab", "a"][:many + 1], "")

    def test_what_was_loose_is_gone_when_written(self):
        log = Log(WORD, QUOTED, "'a''b")
        self.is_like(log, WORD, QUOTED, ["a"], "'b")
        log.write("ab")
        self.is_like(log, WORD, QUOTED, ["a", "ab"], "")

    def test_as_long_as_texts_stand_there_whole(self):
        for text, values, loose in (
                ("", [], ""), ("'", [], "'"), ("x'a'", [], "x'a'"), ("'a'x'b'", ["a"], "x'b'"), ("'a''", ["a"], "'"), ("'a'\u25a1%", ["a"], "\u25a1%"),
                ("'a''abb''a'", ["a"], "'abb''a'"), ("'a' 'b'", ["a"], " 'b'"), ("''''", ["", ""], ""), ("'c'", [], "'c'"), ("'a'\n", ["a"], "\n")):
            with self.subTest(text):
                self.is_like(Log(WORD, QUOTED, text), WORD, QUOTED, values, loose)

    def test_torn_at_each_sign(self):
        rng = random.Random(271)
        for _ in range(60):
            sort, format = some_loggable(rng, rng.random() < 0.5)
            values = [rng.choice(some_values(rng, sort, 10)) for _ in range(4)]
            texts = [write(sort, format, value) for value in values]
            loose = rng.choice(("", "", "\n", texts[0][:-1]))
            whole = "".join(texts) + loose
            log = Log(sort, format, whole)
            with self.subTest((sort, format, whole)):
                self.is_like(log, sort, format, values, loose)
                for n in range(len(whole) + 1):
                    torn = log.torn(n)
                    stays = [at for at in range(len(values) + 1) if len("".join(texts[:at])) <= len(whole) - n][-1]
                    self.is_like(torn, sort, format, values[:stays], whole[len("".join(texts[:stays])):len(whole) - n])
                    self.assertEqual(torn.text + torn.loose, whole[:len(whole) - n])
                self.is_like(log, sort, format, values, loose)
                for n in ODD_NUMBERS + (len(whole) + 1,):
                    with self.assertRaises(BadThing) as caught:
                        log.torn(n)
                    self.assertIs(caught.exception.thing, n)

    def test_back_to(self):
        for n in range(4):
            log = Log(WORD, QUOTED, "'a''ab''''b")
            self.assertIsNone(log.back_to(n))
            self.is_like(log, WORD, QUOTED, ["a", "ab", ""][:n], "")
            log.write("b")
            self.is_like(log, WORD, QUOTED, ["a", "ab", ""][:n] + ["b"], "")
        log = Log(WORD, QUOTED, "'a''ab''''b")
        for n in ODD_NUMBERS + (4,):
            with self.assertRaises(BadThing) as caught:
                log.back_to(n)
            self.assertIs(caught.exception.thing, n)
            self.is_like(log, WORD, QUOTED, ["a", "ab", ""], "'b")

    def test_many_deeds(self):
        rng = random.Random(272)
        for _ in range(60):
            sort, format = some_loggable(rng, True)
            kept, loose = [], ""
            log = Log(sort, format, "")
            for _ in range(15):
                text = "".join(write(sort, format, value) for value in kept) + loose
                deed = rng.choice(("write", "write", "write", "torn", "back", "wrong"))
                if deed == "write":
                    kept, loose = kept + [some_value(rng, sort)], ""
                    log.write(kept[-1])
                elif deed == "torn":
                    other = log.torn(rng.randint(0, min(6, len(text))))
                    log, text = other, other.text + other.loose
                    while len("".join(write(sort, format, value) for value in kept)) > len(text):
                        kept.pop()
                    loose = text[len("".join(write(sort, format, value) for value in kept)):]
                elif deed == "back" and kept:
                    kept, loose = kept[:rng.randint(len(kept) - 1, len(kept))], ""
                    log.back_to(len(kept))
                else:
                    for thing in (object(), [], "%", -1.5):
                        self.assertRaises(BadThing, log.write, thing)
                self.is_like(log, sort, format, kept, loose)
                self.is_like(Log(sort, format, log.text + log.loose), sort, format, kept, loose)

    def test_what_is_written_must_be_a_value(self):
        log = Log(WORD, QUOTED, "'a''b")
        for thing in ("abb", "c", 1, None, True, ("a",), ["a"], b"a"):
            with self.assertRaises(BadThing) as caught:
                log.write(thing)
            self.assertIs(caught.exception.thing, thing)
            self.is_like(log, WORD, QUOTED, ["a"], "'b")
        self.assertRaises(BadThing, Log(DIGITS, TWO, "").write, True)

    def test_any_text(self):
        rng = random.Random(273)
        tried = 0
        while tried < 60:
            sort, format = some_loggable(rng, False)
            if how_many_values(sort) > 100:
                continue
            tried += 1
            by_text = {write(sort, format, value): value for value in all_values(sort)}
            for _ in range(10):
                pieces = [rng.choice(sorted(by_text)) if rng.random() < 0.8 else rng.choice("ab01-;") for _ in range(4)]
                text = rest = "".join(pieces)
                values = []
                while True:
                    begun = [other for other in by_text if rest.startswith(other)]
                    if not begun:
                        break
                    values.append(by_text[begun[0]])
                    rest = rest[len(begun[0]):]
                self.is_like(Log(sort, format, text), sort, format, values, rest)

    def test_rewritten(self):
        rng = random.Random(274)
        tried = 0
        while tried < 60:
            sort, format = some_loggable(rng, True)
            other = some_format(rng, sort, 6)
            values = [rng.choice(some_values(rng, sort, 10)) for _ in range(3)]
            log = Log(sort, format, "".join(write(sort, format, value) for value in values) + "\n")
            try:
                is_good = not can_be_empty(sort, other) and standing(sort, other)[0] == "alone"
            except TooLarge:
                self.assertRaises(TooLarge, log.rewritten, other)
                continue
            if is_good:
                tried += 1
                self.is_like(log.rewritten(other), sort, other, values, "")
            else:
                with self.assertRaises(BadFormat) as caught:
                    log.rewritten(other)
                self.assertEqual(caught.exception.thing, other)
            self.is_like(log, sort, format, values, "\n")

    def test_one_log_does_not_change_another(self):
        log = Log(WORD, QUOTED, "'a''b'")
        torn, other = log.torn(0), log.rewritten(QUOTED)
        torn.write("ab")
        other.back_to(0)
        self.is_like(log, WORD, QUOTED, ["a", "b"], "")
        log.back_to(1)
        self.is_like(torn, WORD, QUOTED, ["a", "b", "ab"], "")
        self.is_like(other, WORD, QUOTED, [], "")

    def test_a_long_log(self):
        log = Log(WORDS, QUOTED, "'a!'b'" * 2000 + "'")
        self.assertEqual((len(log), log.entries[-1], log.loose, log.place_of(1999)), (2000, "a'b", "'", (11994, 12000)))


class Errors(unittest.TestCase):
    def test_formats_that_can_not_be_logged(self):
        rng = random.Random(275)
        found = {True: 0, False: 0}
        while min(found.values()) < 60:
            sort, format = some_pair(rng, False, rng.choice((1, 2, 3)))
            if how_many_values(sort) > 200:
                continue
            told = can_be_logged(sort, format)
            try:
                self.assertIs(is_alone(machine_of(sort, format)), standing(sort, format)[0] == "alone")
                found[told] += 1
                if told:
                    self.assertEqual(Log(sort, format, "").entries, ())
                    continue
                with self.assertRaises(BadFormat) as caught:
                    Log(sort, format, "")
                self.assertEqual(caught.exception.thing, format)
            except TooLarge:
                pass

    def test_endless_many_values(self):
        rng = random.Random(276)
        found = {True: 0, False: 0}
        for sort, format in ENDLESS + [some_pair(rng, True, 3) for _ in range(60)] + [some_cut_many(rng) for _ in range(40)]:
            try:
                told = standing(sort, format)[0] == "alone"
            except TooLarge:
                continue
            self.assertIs(is_alone(machine_of(sort, format)), told)
            found[told] += 1
            if told and not can_be_empty(sort, format):
                self.assertEqual(len(Log(sort, format, "")), 0)
            else:
                self.assertRaises(BadFormat, Log, sort, format, "")
        self.assertGreater(min(found.values()), 10)

    def test_some_known_ones(self):
        for sort, format in ((INT, FIGURES), (PRICE, TIGHT), (PRICE, LOOSE), (WORD, ("plain",)), (("one", 1), ("names", ("",))), (DIGITS, ("skip",)),
                             (("one", 2), ("names", ("a", "a"))), (("one", 2), ("names", ("a", "ab"))), (("row", ()), ("row", ()))):
            for text in ("", "7", "'a'"):
                with self.subTest((sort, format)), self.assertRaises(BadFormat) as caught:
                    Log(sort, format, text)
                self.assertEqual(caught.exception.thing, format)
        for sort, format in ((DIGITS, TWO), (DIGITS, PADDED), (("one", 1), ("names", ("a",))), (("row", ()), ("row", ("a",)))):
            self.assertEqual(Log(sort, format, "").entries, ())

    def test_too_large(self):
        empty = ("maybe", INT), ("maybe", "", HUGE)
        ended = Log(("row", (INT,)), ("row", ((0, FIGURES), ";")), "7;")
        for call in (lambda: Log(INT, HUGE, ""), lambda: Log(*empty, ""), lambda: ended.rewritten(("row", ((0, HUGE), ";")))):
            with self.assertRaises(TooLarge) as caught:
                call()
            self.assertEqual(caught.exception.most, 500)


if __name__ == "__main__":
    unittest.main()
