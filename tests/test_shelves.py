"""[33] Shelves."""

import random
import unittest

from readagain.errors import BadDeed, BadFormat, BadThing, TooLarge
from readagain.formats import is_format
from readagain.logs import Log
from readagain.machines import machine_of
from readagain.shelves import Shelf, deeds_format, deeds_sort
from readagain.sorts import is_sort, is_value
from readagain.spans import with_part
from readagain.verdicts import verdict
from readagain.writing import write
from tests.making import DIGITS, FIGURES, INT, LOOSE, PADDED, PRICE, TIGHT, TWO, WORD, all_values, some_format, some_sort, some_value
from tests.test_logs import ODD_NUMBERS

NAMES = ("word", "abcdefgh", 1, None)
HUGE = ("checked", 16, 5, FIGURES)
PLAIN = ("plain",)
UNDO, REDO = (3, ()), (4, ())
NO_DEEDS = (None, 0, "", (), (0,), (5, ()), (3, (1,)), (3,), (0, ("a",)), (0, ("a", 100)), (0, ("a", True)), (0, ("", 5)), (0, ("i", 5)), (0, (5, "a")),
            (1, ()), (1, "a"), (1, ("",)), (2, ("a",)), (2, ("a", "")), (2, ("a", "z")), [3, ()], (3, []), (True, ("a",)), (3.0, ()), ("3", ()),
            (0, ["a", 5]), (0, ("a", 5), 0), object(), {3: ()}, (-1, ()), (0, ("a", None)))


def written_told(format, deed):
    """The text of a deed, word for word."""
    kind, told = deed
    if kind == 0:
        return f"+{told[0]}={format(told[1])};"
    return (None, lambda: f"-{told[0]};", lambda: f">{told[0]}:{told[1]};", lambda: "<;", lambda: "!;")[kind]()


class OwnShelf:
    """A shelf that does all deeds that stand from the beginning, each time."""

    def __init__(self):
        self.deeds, self.standing, self.undone = [], [], []

    def values(self):
        found = {}
        for kind, told in self.standing:
            if kind == 0:
                found[told[0]] = told[1]
            elif kind == 1:
                del found[told[0]]
            else:
                found[told[1]] = found.pop(told[0])
        return found

    def can(self, deed):
        kind, told = deed
        there = self.values()
        return {0: True, 1: kind != 1 or told[0] in there, 2: kind != 2 or told[0] in there and told[1] not in there,
                3: len(self.standing) > 0, 4: len(self.undone) > 0}[kind]

    def do(self, deed):
        self.deeds.append(deed)
        if deed == UNDO:
            self.undone.append(self.standing.pop())
        elif deed == REDO:
            self.standing.append(self.undone.pop())
        else:
            self.standing.append(deed)
            self.undone = []


def own_shelf(deeds):
    own = OwnShelf()
    for deed in deeds:
        own.do(deed)
    return own


def some_deed(rng, sort):
    names = "a b c ab".split()
    kind = rng.choice((0, 0, 0, 1, 2, 2, 3, 3, 4, 4))
    if kind == 0:
        return (0, (rng.choice(names), some_value(rng, sort)))
    return (kind, {1: (rng.choice(names),), 2: (rng.choice(names), rng.choice(names)), 3: (), 4: ()}[kind])


def some_shelved(rng):
    """A sort and a format of it for a shelf."""
    while True:
        sort = some_sort(rng, rng.choice((1, 2)), True)
        format = some_format(rng, sort, rng.choice((4, 5)))
        if is_sort(deeds_sort(sort)) and is_format(deeds_sort(sort), deeds_format(format)):
            try:
                Shelf(sort, format, "")
                return sort, format
            except (BadFormat, TooLarge):
                pass


class Deeds(unittest.TestCase):
    def test_their_sort(self):
        for sort in (DIGITS, PRICE, ("maybe", WORD)):
            told = deeds_sort(sort)
            self.assertEqual(told, ("case", (("row", (NAMES, sort)), ("row", (NAMES,)), ("row", (NAMES, NAMES)), ("row", ()), ("row", ()))))
            self.assertTrue(is_sort(told))

    def test_their_format(self):
        for sort, format in ((DIGITS, TWO), (PRICE, LOOSE), (DIGITS, ("pad", 3, "0", "<", ("checked", 3, 2, PADDED))), (INT, ("cut", 3, ("cut", 3, ("cut", 3, FIGURES)))), (WORD, PLAIN)):
            whole, of = deeds_sort(sort), deeds_format(format)
            self.assertTrue(is_format(whole, of))
            rng = random.Random(281)
            for _ in range(50):
                deed = some_deed(rng, sort)
                self.assertTrue(is_value(whole, deed))
                self.assertEqual(write(whole, of, deed), written_told(lambda value: write(sort, format, value), deed))


class Shelves(unittest.TestCase):
    def is_like(self, shelf, sort, format, deeds):
        """Whether a shelf is as these deeds leave it."""
        own = own_shelf(deeds)
        values = own.values()
        self.assertEqual(shelf.names(), tuple(sorted(values)))
        log = shelf.log()
        self.assertEqual((log.entries, log.loose), (tuple(deeds), ""))
        self.assertEqual(log.text, "".join(written_told(lambda value: write(sort, format, value), deed) for deed in deeds))
        for name in "a b c ab d".split():
            if name in values:
                self.assertEqual((shelf.value_of(name), shelf.text_of(name)), (values[name], write(sort, format, values[name])))
            else:
                for call in (shelf.value_of, shelf.text_of):
                    with self.assertRaises(BadThing) as caught:
                        call(name)
                    self.assertEqual(caught.exception.thing, name)
        for deed in (UNDO, REDO) + tuple((2, (one, other)) for one in "ab" for other in "abc") + tuple((1, (name,)) for name in "abcd"):
            self.assertIs(shelf.can(deed), own.can(deed), deed)
        for value in values.values():
            self.assertEqual(shelf.names_of(value), tuple(sorted(name for name in values if values[name] == value)))
            text = write(sort, format, value)
            for size in (0, 1, len(text)):
                begun = {name for name in values if write(sort, format, values[name]).startswith(text[:size])}
                self.assertEqual(shelf.beginning_with(text[:size]), tuple(sorted(begun)))
        return own

    def test_examples(self):
        shelf = Shelf(DIGITS, TWO, "+a=07;+b=12;>a:c;<;-b;+")
        self.assertEqual((shelf.names(), shelf.value_of("a"), shelf.log().text, shelf.can((4, ())), shelf.torn(1).names()),
                         (("a",), 7, "+a=07;+b=12;>a:c;<;-b;", False, ("a", "b")))

    def test_one_deed_after_the_other(self):
        shelf = Shelf(DIGITS, TWO, "")
        self.is_like(shelf, DIGITS, TWO, [])
        deeds = [(0, ("a", 7)), (0, ("a", 8)), UNDO, UNDO, REDO, (0, ("b", 7)), (2, ("b", "c")), (1, ("a",)), UNDO, UNDO, UNDO, REDO, REDO, REDO, UNDO,
                 (2, ("c", "b")), UNDO, UNDO, REDO]
        names = [("a",), ("a",), ("a",), (), ("a",), ("a", "b"), ("a", "c"), ("c",), ("a", "c"), ("a", "b"), ("a",), ("a", "b"), ("a", "c"), ("c",),
                 ("a", "c"), ("a", "b"), ("a", "c"), ("a", "b"), ("a", "c")]
        for at, deed in enumerate(deeds):
            self.assertIs(shelf.can(deed), True)
            self.assertIsNone(shelf.do(deed))
            self.assertEqual(shelf.names(), names[at])
            self.is_like(shelf, DIGITS, TWO, deeds[:at + 1])
        self.assertEqual(shelf.value_of("a"), 7)

    def test_drawn_deeds(self):
        rng = random.Random(282)
        found = {True: 0, False: 0}
        for _ in range(35):
            sort, format = some_shelved(rng)
            shelf, own = Shelf(sort, format, ""), OwnShelf()
            for _ in range(14):
                deed = some_deed(rng, sort)
                can = own.can(deed)
                self.assertIs(shelf.can(deed), can)
                found[can] += 1
                if can:
                    own.do(deed)
                    shelf.do(deed)
                else:
                    with self.assertRaises(BadDeed) as caught:
                        shelf.do(deed)
                    self.assertIs(caught.exception.deed, deed)
            with self.subTest((sort, format, own.deeds)):
                self.is_like(shelf, sort, format, own.deeds)
                text = shelf.log().text
                self.is_like(Shelf(sort, format, text + "+a"), sort, format, own.deeds)
                for n in range(len(own.deeds) + 1):
                    self.is_like(shelf.at(n), sort, format, own.deeds[:n])
                for n in range(min(len(text), 30) + 1):
                    torn = shelf.torn(n)
                    stays = Log(deeds_sort(sort), deeds_format(format), text[:len(text) - n]).entries
                    self.assertEqual(stays, tuple(own.deeds[:len(stays)]))
                    self.is_like(torn, sort, format, list(stays))
                self.is_like(shelf, sort, format, own.deeds)
                for call, most in ((shelf.torn, len(text)), (shelf.at, len(own.deeds))):
                    for n in ODD_NUMBERS + (most + 1,):
                        with self.assertRaises(BadThing) as caught:
                            call(n)
                        self.assertIs(caught.exception.thing, n)
        self.assertGreater(min(found.values()), 100)

    def test_up_to_the_first_deed_that_can_not_be_done(self):
        for text, deeds in (
                ("+a=07;-b;+c=08;", 1), ("<;+a=07;", 0), ("+a=07;!;", 1), ("+a=07;>a:a;<;", 1), ("+a=07;+b=08;>a:b;", 2), ("+a=07;>b:c;", 1), ("+a=07;<;<;!;", 2),
                ("+a=07;<;+b=08;!;-b;", 3), ("-a;", 0), ("+a=7;", 0), ("+a=07;x+b=08;", 1), ("+a=07;+b=08", 1), ("x", 0), ("+=07;", 0), ("+i=07;", 0),
                ("+a=07;-a;-a;+a=08;", 2), ("+a=07;>a:b;>a:c;", 2), ("\n+a=07;", 0)):
            with self.subTest(text):
                shelf = Shelf(DIGITS, TWO, text)
                whole = Log(deeds_sort(DIGITS), deeds_format(TWO), text).entries
                self.is_like(shelf, DIGITS, TWO, list(whole[:deeds]))
                self.assertEqual(len(shelf.log()), deeds)

    def test_what_can_not_be_done(self):
        shelf = Shelf(DIGITS, TWO, "+a=07;+b=12;<;")
        for deed in NO_DEEDS + ((1, ("b",)), (2, ("a", "a")), (2, ("b", "c")), (1, ("c",))):
            with self.subTest(repr(deed)):
                self.assertIs(shelf.can(deed), False)
                with self.assertRaises(BadDeed) as caught:
                    shelf.do(deed)
                self.assertIs(caught.exception.deed, deed)
        self.is_like(shelf, DIGITS, TWO, [(0, ("a", 7)), (0, ("b", 12)), UNDO])
        self.assertIs(shelf.can(REDO), True)

    def test_a_log_each_time(self):
        shelf = Shelf(DIGITS, TWO, "+a=07;")
        log = shelf.log()
        log.back_to(0)
        shelf.log().write(UNDO)
        self.is_like(shelf, DIGITS, TWO, [(0, ("a", 7))])
        log = shelf.log()
        shelf.do((0, ("b", 8)))
        self.assertEqual(log.text, "+a=07;")
        self.assertEqual(log.rewritten(deeds_format(PADDED)).text, "+a=07;")

    def test_one_shelf_does_not_change_another(self):
        shelf = Shelf(DIGITS, TWO, "+a=07;+b=08;<;")
        others = [shelf.torn(0), shelf.at(3), shelf.moved_to(PADDED)]
        for other in others:
            other.do(REDO)
            other.do((1, ("a",)))
        self.is_like(shelf, DIGITS, TWO, [(0, ("a", 7)), (0, ("b", 8)), UNDO])

    def test_replaced_parts(self):
        shelf = Shelf(PRICE, ("row", ((0, FIGURES), ",", (1, TWO))), "+a=1,02;")
        self.assertIsNone(shelf.replace("a", (1,), 45))
        self.assertEqual((shelf.value_of("a"), shelf.text_of("a"), shelf.log().text), ((1, 45), "1,45", "+a=1,02;+a=1,45;"))
        shelf.replace("a", (), (3, 4))
        shelf.do(UNDO)
        self.assertEqual((shelf.value_of("a"), len(shelf.log())), ((1, 45), 4))
        for name, path, part, thing in (
                ("b", (1,), 5, "b"), ("b", (9,), None, "b"), ("", (), None, ""), ("a", (2,), 5, (2,)), ("a", (1, 0), 5, (1, 0)), ("a", (True,), 5, (True,)), ("a", [1], 5, [1]),
                ("a", None, 5, None), ("a", (2,), None, (2,)), ("a", (1,), 100, 100), ("a", (1,), True, True), ("a", (0,), None, None), ("a", (), 5, 5), (None, (1,), 5, None),
                (["a"], (1,), 5, ["a"]), (7, (1,), 5, 7)):
            with self.subTest((name, path, part)), self.assertRaises(BadThing) as caught:
                shelf.replace(name, path, part)
            self.assertEqual(caught.exception.thing, thing)
            self.assertIs(type(caught.exception.thing), type(thing))
        self.assertEqual((shelf.value_of("a"), len(shelf.log())), ((1, 45), 4))
        self.assertEqual(with_part(PRICE, (1, 45), (1,), 46), (1, 46))

    def test_names_that_are_not_there(self):
        shelf = Shelf(DIGITS, TWO, "+a=07;")
        for name in ("b", "", "z", None, 0, True, ("a",), ["a"], {"a": 1}, b"a"):
            for call in (shelf.value_of, shelf.text_of):
                with self.subTest(repr(name)), self.assertRaises(BadThing) as caught:
                    call(name)
                self.assertIs(caught.exception.thing, name)

    def test_names_by_values_and_texts(self):
        shelf = Shelf(("int", 0, 99), PADDED, "+c=01;+a=10;+b=01;+d=11;")
        self.assertEqual((shelf.names_of(1), shelf.names_of(10), shelf.names_of(5), shelf.names_of(100), shelf.names_of(None)), (("b", "c"), ("a",), (), (), ()))
        self.assertEqual((shelf.names_of(True), shelf.names_of(1.0), shelf.names_of("01"), shelf.names_of([])), ((), (), (), ()))
        self.assertEqual((shelf.beginning_with(""), shelf.beginning_with("0"), shelf.beginning_with("1"), shelf.beginning_with("01"), shelf.beginning_with("010")),
                         (("a", "b", "c", "d"), ("b", "c"), ("a", "d"), ("b", "c"), ()))

    def test_moved_to_other_formats(self):
        rng = random.Random(283)
        tried = 0
        while tried < 25:
            sort, format = some_shelved(rng)
            other = some_format(rng, sort, 4)
            shelf, own = Shelf(sort, format, ""), OwnShelf()
            for _ in range(8):
                deed = some_deed(rng, sort)
                if own.can(deed):
                    own.do(deed)
                    shelf.do(deed)
            try:
                Shelf(sort, other, "")
            except TooLarge:
                self.assertRaises(TooLarge, shelf.moved_to, other)
                continue
            except BadFormat:
                with self.assertRaises(BadFormat) as caught:
                    shelf.moved_to(other)
                self.assertEqual(caught.exception.thing, other)
                continue
            tried += 1
            moved = shelf.moved_to(other)
            self.is_like(moved, sort, other, own.deeds)
            self.is_like(moved.moved_to(format), sort, format, own.deeds)
            self.assertEqual(moved.moved_to(format).log().text, shelf.log().text)
            self.is_like(shelf, sort, format, own.deeds)


class Errors(unittest.TestCase):
    def test_formats_that_can_not_be_read_back_or_logged(self):
        rng = random.Random(284)
        found = {True: 0, False: 0}
        while min(found.values()) < 25:
            sort = some_sort(rng, rng.choice((1, 2)), False)
            format = some_format(rng, sort, rng.choice((4, 5)))
            try:
                told = verdict(sort, format)[0] == "readable"
                values = all_values(sort) if len(machine_of(sort, format)) < 100 else []
            except TooLarge:
                continue
            texts = [write(sort, format, value) + ";" for value in values]
            if not 0 < len(texts) < 300:
                continue
            # The name and the sign ahead of it are told by themselves: so it hangs on the value's text and the sign behind it.
            good = told and not any(other.startswith(text) for at, text in enumerate(texts) for number, other in enumerate(texts) if at != number)
            found[good] += 1
            if good:
                self.assertEqual(Shelf(sort, format, "").names(), ())
            else:
                with self.assertRaises(BadFormat) as caught:
                    Shelf(sort, format, "+a=")
                self.assertEqual(caught.exception.thing, format)

    def test_some_known_ones(self):
        for sort, format in ((PRICE, LOOSE), (DIGITS, ("cut", 1, FIGURES)), (("word", ";a", 0, None), PLAIN), (("one", 2), ("names", ("a", "a"))), (INT, ("skip",))):
            with self.subTest((sort, format)), self.assertRaises(BadFormat) as caught:
                Shelf(sort, format, "")
            self.assertEqual(caught.exception.thing, format)
        # What doesn't stand alone, or has no signs, will do where it is told behind it that it ends.
        for sort, format in ((INT, FIGURES), (PRICE, TIGHT), (WORD, PLAIN), (("one", 2), ("names", ("", "a"))), (("row", ()), ("row", ()))):
            self.assertEqual(Shelf(sort, format, "").names(), ())

    def test_too_large(self):
        for sort, format in ((INT, HUGE), (("maybe", INT), ("maybe", "-1", HUGE))):
            with self.assertRaises(TooLarge) as caught:
                Shelf(sort, format, "")
            self.assertEqual(caught.exception.most, 500)
        self.assertRaises(TooLarge, Shelf(INT, FIGURES, "+a=5;").moved_to, HUGE)

    def test_too_large_with_the_deeds(self):
        sort = ("int", 0, None)
        self.assertLess(len(machine_of(sort, ("checked", 7, 3, FIGURES))), 500)
        self.assertRaises(TooLarge, machine_of, deeds_sort(sort), deeds_format(("checked", 7, 3, FIGURES)))
        self.assertRaises(TooLarge, Shelf, sort, ("checked", 7, 3, FIGURES), "")
        self.assertRaises(TooLarge, Shelf(sort, FIGURES, "").moved_to, ("checked", 7, 3, FIGURES))


if __name__ == "__main__":
    unittest.main()
