"""[20] Rows of texts, one behind the other."""

import random
import unittest
from functools import lru_cache

from readagain.emptiness import can_be_empty
from readagain.errors import BadFormat, BadText, TooLarge
from readagain.machines import machine_of
from readagain.scores import is_mark, text_of, unspelled, marks_of
from readagain.sorts import how_many_values
from readagain.streams import RowReader, lookahead, shows_endless, shows_known, written_row
from readagain.writing import write
from tests.making import DIGITS, FIGURES, INT, LOOSE, PRICE, TIGHT, TWO, WORD, all_values, some_cut_many, some_pair, some_values
from tests.reckoning import (
    END, ODD_THINGS, all_come_to, changed_dicts, first_told, is_pair_of, is_whole, lists_for_tuples, raised_numbers,
    steps_told, truths_for_integers)
from tests.test_machines import ENDLESS

HUGE = ("checked", 16, 5, FIGURES)
THREE = ("one", 3)
ENDS = ("names", ("a", "ab", "bb"))
KNOWN = ("names", ("a", "ab", "c"))
# Known two signs late: behind a the row may go on by b c, or not.
LATER = ("names", ("a", "abcd", "bce"))


def row_of(machine):
    """What follows in a row: behind an end as behind place 0."""
    return tuple(machine[0] if row == END else row for row in machine)


def early_ends(machine):
    """Early pairs whose first place is an end, word for word."""
    row = row_of(machine)

    def behind(pair):
        return [] if machine[pair[0]] == END else [other for other, _ in steps_told(row, row, pair)]
    return {pair for pair in all_come_to(first_told(machine, True), behind) if machine[pair[0]] == END}


def late_pairs(machine):
    row = row_of(machine)
    return all_come_to(early_ends(machine), lambda pair: [other for other, _ in steps_told(row, row, pair)])


def known_by_the_words(machine, n, thing):
    if not is_whole(n) or type(thing) is not dict:
        return False
    if not all(is_pair_of(machine, machine, pair) and is_whole(many) for pair, many in thing.items()):
        return False
    row = row_of(machine)
    return (all(pair in thing and thing[pair] < n for pair in early_ends(machine))
            and all(behind in thing and thing[behind] + signs <= many
                    for pair, many in thing.items() for behind, signs in steps_told(row, row, pair)))


def endless_by_the_words(machine, fronts, loops):
    for thing in (fronts, loops):
        if type(thing) is not tuple or len(thing) != 2 or not all(type(part) is tuple for part in thing):
            return False
        if not all(type(item) is str for part in thing for item in part):
            return False
    row = row_of(machine)

    def led(place, items):
        for item in items:
            found = [behind for other, behind in (row[place][1] if row[place][0] == "marks" else (row[place][1:],)) if other == item]
            if not found:
                return None
            place = found[0]
        return place
    if any(led(0, front) is None or led(led(0, front), loop) != led(0, front) for front, loop in zip(fronts, loops)):
        return False
    if any(text_of(one) != text_of(other) for one, other in (fronts, loops)) or text_of(loops[0]) == "":
        return False
    place, at = 0, 0
    while machine[place] != END:
        if at == len(fronts[0]):
            return False
        place, at = led(place, fronts[0][at:at + 1]), at + 1
    same = [one == other for one, other in zip(fronts[0][:at], fronts[1])]
    if False not in same:
        return False
    parted = same.index(False)
    return is_mark(fronts[0][parted]) and is_mark(fronts[1][parted])


def has_ring_of_marks(machine):
    """Whether marks alone lead from some place back to it."""
    def behind(place):
        return [other for _, other in machine[place][1]] if machine[place][0] == "marks" else []
    return any(place in all_come_to(behind(place), behind) for place in range(len(machine)))


def late_by_texts(texts):
    """How many signs late first values are known, told by the texts of all values; None for endless.

    A state is what the one of two rows has more than the other; more and more texts are put to the
    row that lags behind.
    """
    best = 0
    for one, text in enumerate(texts):
        for other, other_text in enumerate(texts):
            if one == other:
                continue
            if other_text.startswith(text):
                most = agreement(texts, other_text[len(text):])
                short = 0
            elif text.startswith(other_text):
                most = agreement(texts, text[len(other_text):])
                short = len(text) - len(other_text)
            else:
                continue
            if most is None:
                return None
            if most >= short:
                best = max(best, most - short + 1)
    return best


def agreement(texts, surplus):
    """The most signs by which two rows can go on alike, the one having so much more; None for endless."""
    edges, waiting = {}, [surplus]
    while waiting:
        state = waiting.pop()
        if state in edges:
            continue
        edges[state] = []
        for text in texts:
            same = 0
            while same < min(len(text), len(state)) and text[same] == state[same]:
                same += 1
            if same == len(text) or same == len(state):
                behind = state[same:] or text[same:]
                edges[state].append((same, behind))
                waiting.append(behind)
            else:
                edges[state].append((same, None))
    if "" in edges:
        return None
    done = {None: 0}

    def greatest(state, ahead):
        if state in ahead:
            return None
        if state not in done:
            found = []
            for same, behind in edges[state]:
                more = greatest(behind, ahead | {state})
                if more is None:
                    return None
                found.append(same + more)
            done[state] = max(found)
        return done[state]
    return greatest(surplus, frozenset())


class RowsByTexts:
    """What a reader of rows must tell, by going through all rows of texts."""

    def __init__(self, texts):
        self.texts = texts
        self.covers = lru_cache(None)(self.find_covers)

    def find_covers(self, text):
        """All rows of numbers whose texts come up to the end of the text, and not without the last one."""
        if text == "":
            return ((),)
        found = []
        for number, other in enumerate(self.texts):
            if text.startswith(other):
                found += [(number,) + rest for rest in self.covers(text[len(other):])]
            elif other.startswith(text):
                found.append((number,))
        return tuple(found)

    def told(self, text):
        """The numbers that are known, or None if no row begins so."""
        covers = self.covers(text)
        if not covers:
            return None
        told = []
        while True:
            at = len(told)
            first = covers[0][at] if len(covers[0]) > at else None
            size = sum(len(self.texts[number]) for number in told + [first]) if first is not None else 0
            if first is None or size > len(text) or not all(len(row) > at and row[at] == first for row in covers):
                return told
            told.append(first)

    def whole(self, text):
        """The rows whose text this is."""
        return [row for row in self.covers(text) if sum(len(self.texts[number]) for number in row) == len(text)]


class Lookahead(unittest.TestCase):
    def right(self, sort, format, texts):
        """Whether what is told is right, if the texts of all values are known, or else by the words alone."""
        told = lookahead(sort, format)
        machine = machine_of(sort, format)
        late = late_pairs(machine)
        if told[0] == "known":
            _, n, table = told
            self.assertEqual(list(table), sorted(late))
            self.assertTrue(known_by_the_words(machine, n, table))
            self.assertIs(shows_known(machine, n, table), True)
            self.assertIs(shows_known(machine, n - 1, table), False)
            row = row_of(machine)
            for pair, many in table.items():
                self.assertEqual(many, max([table[behind] + signs for behind, signs in steps_told(row, row, pair)], default=0))
            self.assertEqual(n, max([table[pair] + 1 for pair in early_ends(machine)], default=0))
        else:
            self.assertEqual((told[0], len(told)), ("endless", 3))
            self.assertTrue(endless_by_the_words(machine, told[1], told[2]))
            self.assertIs(shows_endless(machine, told[1], told[2]), True)
            self.assertIs(shows_known(machine, 1000, {pair: 999 for pair in late}), False)
        if texts is not None:
            self.assertEqual(told[1] if told[0] == "known" else None, late_by_texts(texts))
        return told

    def test_examples(self):
        self.assertEqual((lookahead(THREE, ENDS)[0], lookahead(THREE, KNOWN)[:2]), ("endless", ("known", 1)))

    def test_some_known_ones(self):
        words = ("word", "ab", 1, None)
        for sort, format, late in (
                (DIGITS, TWO, 0), (INT, FIGURES, None), (THREE, LATER, 3), (words, ("quoted", "'", "!"), 0), (words, ("plain",), None),
                (THREE, ("names", ("a", "a", "b")), None), (("one", 2), ("names", ("a", "aab")), 2),
                (("one", 2), ("names", ("ab", "aba")), 2), (("one", 2), ("names", ("a", "ab")), 1),
                (words, ("spelled", (("a", "xa"), ("b", "x"))), None), (("one", 1), ("names", ("aa",)), 0),
                (("row", (words,)), ("row", ("(", (0, ("plain",)))), 1),
                (("row", (words,)), ("row", ("ba", (0, ("plain",)))), None),
                (("row", (words,)), ("row", ("(!)", (0, ("plain",)))), 1),
                (("row", (("word", "ab(", 1, None),)), ("row", ("(!)", (0, ("plain",)))), 2),
                (("row", (("word", "!(", 1, None),)), ("row", ("(!)", (0, ("plain",)))), 3),
                (("one", 2), ("names", ("a", "aa")), None), (("int", 0, None), ("figures", 10, "+", 1, 0, "", ""), 1)):
            with self.subTest((sort, format)):
                told = self.right(sort, format, None)
                self.assertEqual(told[1] if told[0] == "known" else None, late)

    def test_finitely_many_values(self):
        rng = random.Random(111)
        found = {"known": 0, "endless": 0}
        while min(found.values()) < 60:
            sort, format = some_pair(rng, False, rng.choice((1, 2, 3)))
            if how_many_values(sort) > 60 or can_be_empty(sort, format):
                continue
            with self.subTest((sort, format)):
                try:
                    found[self.right(sort, format, [write(sort, format, value) for value in all_values(sort)])[0]] += 1
                except TooLarge:
                    pass

    def test_names_that_are_known_late(self):
        rng = random.Random(112)
        found = {}
        for _ in range(400):
            texts = tuple("".join(rng.choice("ab" if rng.random() < 0.9 else "c") for _ in range(rng.randint(1, 8)))
                          for _ in range(rng.choice((2, 3, 4))))
            with self.subTest(texts):
                told = self.right(("one", len(texts)), ("names", texts), texts)
                late = told[1] if told[0] == "known" else None
                found[late] = found.get(late, 0) + 1
        self.assertGreater(len(found), 5)

    def test_endless_many_values(self):
        rng = random.Random(113)
        for sort, format in ENDLESS + [some_pair(rng, True, rng.choice((1, 2, 3))) for _ in range(60)]:
            if not can_be_empty(sort, format):
                with self.subTest((sort, format)):
                    try:
                        if len(machine_of(sort, format)) < 150:
                            self.right(sort, format, None)
                    except TooLarge:
                        pass

    def test_a_ring_of_marks_alone(self):
        sort, format = ("many", ("one", 2), 0, None), ("many", "x", "(", "", ")", ("skip",))
        self.assertEqual(self.right(sort, format, None)[0], "endless")

    def test_loops_have_signs(self):
        sort = ("many", ("many", ("int", 5, 12), 0, None), 1, 2)
        figures = ("figures", 2, "+", 3, 0, "", "")
        format = ("many", "0", "(", "-", "", ("cut", 2, ("many", "a", "(", " ", "", figures)))
        word, _, loops = self.right(sort, format, None)
        self.assertEqual((word, text_of(loops[0])), ("endless", text_of(loops[1])))
        self.assertNotEqual(text_of(loops[0]), "")

    def test_endless_many_values_with_one_text(self):
        rng = random.Random(120)
        tried = rings = 0
        while tried < 150:
            sort, format = some_cut_many(rng)
            if can_be_empty(sort, format):
                continue
            with self.subTest((sort, format)):
                try:
                    machine = machine_of(sort, format)
                except TooLarge:
                    continue
                if len(machine) < 100:
                    tried += 1
                    told = self.right(sort, format, None)
                    rings += has_ring_of_marks(machine)
                    self.assertTrue(told[0] == "endless" or not has_ring_of_marks(machine))
        self.assertGreater(rings, 60)

    def test_equal_answers(self):
        told = lookahead(THREE, KNOWN)
        kept = dict(told[2])
        told[2].clear()
        self.assertEqual(lookahead(THREE, KNOWN), ("known", 1, kept))


class Emptiness(unittest.TestCase):
    def test_whether_a_text_can_be_empty(self):
        rng = random.Random(114)
        found = {True: 0, False: 0}
        while min(found.values()) < 150:
            sort, format = some_pair(rng, False, rng.choice((1, 2, 3, 4)))
            if how_many_values(sort) <= 300:
                told = can_be_empty(sort, format)
                self.assertIs(told, "" in [write(sort, format, value) for value in all_values(sort)], (sort, format))
                found[told] += 1

    def test_many(self):
        one = ("names", ("",))
        for least, most, texts, told in (
                (0, None, ("", "a", "a", "a"), True), (0, None, ("a", "", "a", ""), True), (0, None, ("a", "a", "", ""), False),
                (0, None, ("a", "", "", "a"), False), (1, None, ("", "", "a", ""), True), (2, None, ("", "", "a", ""), False),
                (2, 3, ("", "", "", ""), True), (0, 0, ("a", "", "", ""), False), (0, 0, ("", "a", "a", "a"), True),
                (1, 1, ("", "a", "", ""), False), (8, 8, ("a", "", "", ""), True)):
            with self.subTest((least, most, texts)):
                self.assertIs(can_be_empty(("many", ("one", 1), least, most), ("many",) + texts + (one,)), told)
        self.assertIs(can_be_empty(("many", ("one", 1), 0, None), ("many", "a", "", "", "", ("names", ("a",)))), False)


class Rows(unittest.TestCase):
    def test_written_rows(self):
        self.assertEqual(written_row(THREE, KNOWN, [0, 1, 2, 0]), "aabca")
        self.assertEqual(written_row(THREE, KNOWN, (1,)), "ab")
        self.assertEqual(written_row(THREE, KNOWN, []), "")
        self.assertEqual(written_row(INT, HUGE, [7, 7]), write(INT, HUGE, 7) * 2)

    def reads_right(self, rng, sort, format, values, text, size):
        """Feed a text by pieces of about this size, and compare with what all rows of texts tell."""
        rows = RowsByTexts([write(sort, format, value) for value in values])
        reader = RowReader(sort, format)
        self.assertEqual((reader.size, reader.told, reader.can_end(), reader.rest()), (0, [], True, []))
        at = 0
        while at < len(text):
            piece = text[at:at + rng.randint(0 if size > 0 else 1, max(1, size))]
            told = rows.told(text[:at + len(piece)])
            if told is None:
                wrong = next(many for many in range(at, at + len(piece)) if rows.told(text[:many + 1]) is None)
                before = (reader.size, list(reader.told), reader.can_end())
                with self.assertRaises(BadText) as caught:
                    reader.feed(piece)
                self.assertEqual(caught.exception.place, wrong)
                self.assertEqual((reader.size, reader.told, reader.can_end()), before)
                text = text[:at] + text[wrong + 1:]
                continue
            self.assertIsNone(reader.feed(piece))
            at += len(piece)
            self.assertEqual(reader.size, at)
            self.assertEqual(reader.told, [values[number] for number in told])
            whole = rows.whole(text[:at])
            self.assertIs(reader.can_end(), bool(whole))
            if whole:
                self.assertEqual(len(whole), 1)
                self.assertEqual(reader.told + reader.rest(), [values[number] for number in whole[0]])
            else:
                with self.assertRaises(BadText) as caught:
                    reader.rest()
                self.assertEqual(caught.exception.place, at)

    def test_example(self):
        row = RowReader(THREE, KNOWN)
        self.assertEqual((row.feed("aaba"), row.told, row.can_end(), row.rest()), (None, [0, 1], True, [0]))

    def test_as_soon_as_known(self):
        row = RowReader(THREE, LATER)
        told = []
        for sign in "aabceabcda":
            row.feed(sign)
            told.append(tuple(row.told))
        self.assertEqual(told, [(), (0,), (0,), (0,), (0, 0, 2), (0, 0, 2), (0, 0, 2), (0, 0, 2), (0, 0, 2, 1), (0, 0, 2, 1)])
        self.assertEqual(row.rest(), [0])

    def test_several_values_behind_those_told(self):
        format = ("names", ("a", "aaab", "c"))
        self.assertEqual(lookahead(THREE, format)[0], "known")
        row = RowReader(THREE, format)
        row.feed("aa")
        self.assertEqual((row.told, row.can_end(), row.rest()), ([], True, [0, 0]))
        row.feed("aa")
        self.assertEqual((row.told, row.rest()), ([0], [0, 0, 0]))
        row.feed("b")
        self.assertEqual((row.told, row.rest()), ([0, 1], []))

    def test_the_one_value_is_told_when_its_text_is_over(self):
        row = RowReader(("one", 1), ("names", ("ab",)))
        self.assertEqual((row.told, row.feed("a"), row.told), ([], None, []))
        self.assertEqual((row.feed("b"), row.told, row.rest()), (None, [0], []))

    def test_rows_of_names(self):
        rng = random.Random(115)
        tried = 0
        while tried < 150:
            texts = tuple("".join(rng.choice("abc") for _ in range(rng.randint(1, 5))) for _ in range(rng.choice((1, 2, 3, 4))))
            sort, format = ("one", len(texts)), ("names", texts)
            if lookahead(sort, format)[0] == "known":
                tried += 1
                text = "".join(rng.choice(texts + ("a", "b")) if rng.random() < 0.1 else rng.choice(texts) for _ in range(8))
                with self.subTest((texts, text)):
                    self.reads_right(rng, sort, format, list(range(len(texts))), text, rng.choice((0, 1, 3, 9)))

    def test_rows_of_all_kinds(self):
        rng = random.Random(116)
        tried = 0
        while tried < 80:
            sort, format = some_pair(rng, False, rng.choice((1, 2, 3)))
            if how_many_values(sort) > 60 or can_be_empty(sort, format):
                continue
            try:
                if lookahead(sort, format)[0] == "endless":
                    continue
            except TooLarge:
                continue
            tried += 1
            values = all_values(sort)
            text = written_row(sort, format, [rng.choice(values) for _ in range(5)])
            with self.subTest((sort, format, text)):
                self.reads_right(rng, sort, format, values, text, rng.choice((0, 1, 3, 9)))

    def test_endless_many_values(self):
        rng = random.Random(117)
        for sort, format, late in (
                (("int", None, None), ("figures", 10, "+", 1, 0, "", ""), 1), (("word", "ab'", 0, None), ("quoted", "'", "a"), 0),
                (("row", (("word", "!(", 1, None),)), ("row", ("(!)", (0, ("plain",)))), 3),
                (("many", WORD, 0, None), ("many", "-", "(", ";", ")", ("plain",)), 0)):
            self.assertEqual(lookahead(sort, format)[:2], ("known", late))
            values = [rng.choice(some_values(rng, sort, 50)) for _ in range(20)]
            if late == 3:
                values = [value for value in values if "(!)" not in value[0] + "("]
            text = written_row(sort, format, values)
            for size in (1, 2, 7, len(text)):
                row = RowReader(sort, format)
                for at in range(0, len(text), size):
                    row.feed(text[at:at + size])
                    over = 0
                    while over < len(values) and len(written_row(sort, format, values[:over + 1])) + late <= row.size:
                        over += 1
                    self.assertGreaterEqual(len(row.told), over)
                    self.assertEqual(row.told, values[:len(row.told)])
                self.assertEqual(row.told + row.rest(), values)

    def test_what_is_handed_out_may_be_changed(self):
        row = RowReader(THREE, KNOWN)
        row.feed("ca")
        row.told.append(7)
        row.rest().append(7)
        row.feed("c")
        self.assertEqual((row.told, row.rest()), ([2, 0, 2], []))

    def test_nothing_wrong_is_fed(self):
        row = RowReader(THREE, KNOWN)
        row.feed("ca")
        for piece, place in (("cbc", 3), ("bb", 3), ("x", 2), ("cacab a", 7), ("cc\u25a1", 4)):
            with self.assertRaises(BadText) as caught:
                row.feed(piece)
            self.assertEqual((caught.exception.place, row.size, row.told, row.rest()), (place, 2, [2], [0]))
        row.feed("")
        row.feed("b")
        self.assertEqual((row.size, row.told, row.rest()), (3, [2, 1], []))

    def test_a_long_row(self):
        row = RowReader(("word", "ab", 0, None), ("quoted", "'", "!"))
        row.feed("'ab'" * 3000)
        self.assertEqual((row.told, row.size), (["ab"] * 3000, 12000))


class Judges(unittest.TestCase):
    def test_what_shows_how_late(self):
        rng = random.Random(118)
        answers = {True: 0, False: 0}
        for sort, format in ((THREE, KNOWN), (THREE, LATER), (THREE, ENDS), (("one", 2), ("names", ("ab", "aba"))), (("int", 0, 11), TWO)):
            machine = machine_of(sort, format)
            told = lookahead(sort, format)
            table = told[2] if told[0] == "known" else {pair: 5 for pair in late_pairs(machine)}
            n = told[1] if told[0] == "known" else 6

            def some_key(source):
                return (source.randrange(len(machine)), source.randrange(len(machine)))

            def some_number(source):
                return source.choice((0, 0, 1, 1, 2, 3, 4, True, None, -1, "1", 1.0))
            things = list(changed_dicts(rng, table, some_key, some_number, 100)) + list(raised_numbers(rng, table, 40))
            for thing in things:
                late = rng.choice((n, n, n + 1, n + 2, n - 1))
                answer = shows_known(machine, late, thing)
                self.assertIs(answer, known_by_the_words(machine, late, thing), (late, thing))
                answers[answer] += 1
        self.assertGreater(min(answers.values()), 80)

    def test_things_that_show_nothing(self):
        machine = machine_of(THREE, KNOWN)
        table = lookahead(THREE, KNOWN)[2]
        self.assertIs(shows_known(machine, 1, table), True)
        self.assertIs(shows_known(machine, 2, {pair: many + 1 for pair, many in table.items()}), True)
        self.assertIs(shows_known(machine, 1, {pair: many + 1 for pair, many in table.items()}), False)
        self.assertIs(shows_known(machine, 1, truths_for_integers(table)), False)
        for thing in list(ODD_THINGS) + list(lists_for_tuples(table)) + [tuple(table), dict(list(table.items())[1:])]:
            with self.subTest(repr(thing)):
                self.assertIs(shows_known(machine, 1, thing), False)
        for n in (True, None, "1", 1.0, -1, (1,), [1]):
            with self.subTest(repr(n)):
                self.assertIs(shows_known(machine, n, table), False)
        alone = machine_of(DIGITS, TWO)
        self.assertIs(shows_known(alone, 0, {}), True)
        self.assertIs(shows_known(alone, 0, ()), False)
        self.assertIs(shows_known(alone, False, {}), False)

    def test_what_shows_that_it_is_endless(self):
        rng = random.Random(119)
        answers = {True: 0, False: 0}
        for sort, format in ((THREE, ENDS), (("one", 2), ("names", ("a", "aa"))), (THREE, ("names", ("a", "a", "b"))), (PRICE, TIGHT),
                             (PRICE, LOOSE), (THREE, KNOWN), (("word", "ab", 1, None), ("plain",)), (INT, FIGURES)):
            machine = machine_of(sort, format)
            told = lookahead(sort, format)
            _, fronts, loops = told if told[0] == "endless" else (0, (("name 0", "a"), ("name 1", "a")), (("name 0", "a"), ("b", "name 1", "a")))
            items = sorted({item for row in machine if row[0] == "marks" for item, _ in row[1]} | {row[1] for row in machine if row[0] == "sign"})
            for _ in range(150):
                parts = [list(part) for part in fronts + loops]
                for _ in range(rng.choice((0, 1, 1, 2))):
                    part = rng.choice(parts)
                    kind = rng.random()
                    if part and kind < 0.4:
                        part.pop(rng.randrange(len(part)))
                    elif part and kind < 0.8:
                        part[rng.randrange(len(part))] = rng.choice(items)
                    else:
                        part.insert(rng.randint(0, len(part)), rng.choice(items))
                if rng.random() < 0.3:
                    parts[0], parts[1], parts[2], parts[3] = parts[1], parts[0], parts[3], parts[2]
                if rng.random() < 0.3:
                    parts[0], parts[1] = parts[0] + parts[2], parts[1] + parts[3]
                if rng.random() < 0.3:
                    parts[2], parts[3] = parts[2] * 2, parts[3] * 2
                parts = [tuple(part) for part in parts]
                answer = shows_endless(machine, (parts[0], parts[1]), (parts[2], parts[3]))
                self.assertIs(answer, endless_by_the_words(machine, (parts[0], parts[1]), (parts[2], parts[3])), parts)
                answers[answer] += 1
        self.assertGreater(min(answers.values()), 200)

    def test_fronts_and_loops_that_show_nothing(self):
        machine = machine_of(THREE, ENDS)
        fronts = (("name 0", "a"), ("name 1", "a"))
        loops = (("name 2", "b", "b"), ("b", "name 2", "b"))
        self.assertIs(shows_endless(machine, fronts, loops), True)
        for other in ((fronts[1], fronts[0]), (fronts[0], fronts[0]), (fronts[0],), fronts + fronts, (("name 0",), ("name 1",)), ((), ()),
                      (("name 0", "a"), ("name 1", "b")), (("name 0", "a", "name 2", "b"), ("name 1", "a", "b", "name 2"))):
            with self.subTest(other):
                self.assertIs(shows_endless(machine, other, loops), False)
        for other in (loops[::-1], ((), ()), (loops[0],), loops + loops, (loops[0], loops[0]), (("name 2", "b"), ("b",)),
                      (loops[0], ("b", "name 2")), (("name 2", "b", "b"), ("b", "name 1", "b"))):
            with self.subTest(other):
                self.assertIs(shows_endless(machine, fronts, other), False)
        for thing in ODD_THINGS + tuple(lists_for_tuples(fronts)) + tuple(lists_for_tuples(loops)):
            with self.subTest(repr(thing)):
                self.assertIs(shows_endless(machine, thing, loops), False)
                self.assertIs(shows_endless(machine, fronts, thing), False)
        # Each of these rows could go on round its loop, but what they have so far is unlike.
        unlike = (("name 0", "a", "name 2", "b"), ("name 1", "a"))
        self.assertIs(shows_endless(machine, unlike, (loops[1], loops[1])), False)
        self.assertIs(shows_endless(machine, (unlike[0], ("name 1", "a", "b", "name 2")), (loops[1], ("b", "b", "name 2"))), True)
        longer = (("name 0", "a", "name 2", "b", "b"), ("name 1", "a", "b", "name 2", "b"))
        self.assertIs(shows_endless(machine, longer, loops), True)
        # The rows are those of values that the marks tell.
        self.assertEqual(unspelled(THREE, ENDS, marks_of(fronts[0])), 0)

    def test_the_first_text_must_be_over(self):
        sort, format = ("word", "ab", 1, None), ("row", ((0, ("plain",)),))
        sort = ("row", (sort,))
        machine = machine_of(sort, format)
        one = (("letter a", "a", "letter a", "a", "letter a", "a"), ("letter a", "a", "stop", "letter a", "a", "letter a", "a"))
        loops = (("letter a", "a"), ("letter a", "a"))
        self.assertIs(shows_endless(machine, one, loops), False)
        self.assertIs(shows_endless(machine, one[::-1], loops), True)


class Errors(unittest.TestCase):
    def test_empty_texts(self):
        for sort, format in ((WORD, ("plain",)), (("one", 2), ("names", ("", "a"))), (INT, ("skip",))):
            for call in (lambda: lookahead(sort, format), lambda: RowReader(sort, format), lambda: written_row(sort, format, [])):
                with self.assertRaises(BadFormat) as caught:
                    call()
                self.assertEqual(caught.exception.thing, format)

    def test_formats_that_are_endlessly_late(self):
        for sort, format in ((THREE, ENDS), (INT, FIGURES), (PRICE, LOOSE)):
            with self.assertRaises(BadFormat) as caught:
                RowReader(sort, format)
            self.assertEqual(caught.exception.thing, format)

    def test_too_large(self):
        empty = ("maybe", INT), ("maybe", "", HUGE)
        for sort, format in ((INT, HUGE), empty):
            for call in (lookahead, RowReader):
                with self.assertRaises(TooLarge) as caught:
                    call(sort, format)
                self.assertEqual(caught.exception.most, 500)
        with self.assertRaises(BadFormat):
            written_row(empty[0], empty[1], [None])


if __name__ == "__main__":
    unittest.main()
