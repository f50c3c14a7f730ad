"""The whole document: its first example, [1] what chapters tell of one format hangs together, [2] equal answers."""

import copy
import importlib
import random
import unittest

from readagain import (
    alike, alone, checking, counting, errors, formats, guessing, including, linking, logs, machines, meeting, mending, nearest, plainvalues, reading,
    reports, resync, scores, shell, shelves, slips, sorts, sources, spans, streams, sure, telling, totals, verdicts, widths, writing)
from tests.making import DIGITS, FIGURES, INT, LOOSE, PADDED, PRICE, TIGHT, TWO, WORD, all_values, some_cut_many, some_pair, some_values
from tests.test_language import CLASSES, INTERFACE

HUGE = ("checked", 16, 5, FIGURES)
QUOTED = ("quoted", "'", "!")


def answer(call):
    """What a call tells, errors too."""
    try:
        return ("told", call())
    except errors.FormatError as error:
        return (type(error).__name__, dict(vars(error)))


def asked_of(sort, format, other, value, text):
    """Calls of all functions, asked of a sort and a format, and of what the package tells of them."""
    machine, other_machine = machines.machine_of(sort, format), machines.machine_of(sort, other)
    items, marks = scores.score(sort, format, value), scores.spelling(sort, format, value)
    both, three, pairs = (sort, format), (sort, format, text), (sort, format, sort, other)
    padded = ("pad", 1, "0", "<", format) if len(widths.widths_of(format)) < 2 else format
    listed = (("many", sort, 0, 2), ("many", "", "", "", "", format))
    given, rows = [value, value], [(value, text)]
    return {
        **asked_of_values(sort, format, value, text, items, marks),
        "machine_of": lambda: machines.machine_of(*both), "place_behind": lambda: machines.place_behind(machine, items),
        "first_pairs": lambda: verdicts.first_pairs(machine), "pairs_behind": lambda: verdicts.pairs_behind(machine, (0, 0)), "verdict": lambda: verdicts.verdict(*both),
        "is_closed": lambda: verdicts.is_closed(machine, verdicts.verdict(*both)[1]), "are_twins": lambda: verdicts.are_twins(*both, value, value),
        "read": lambda: reading.read(*three), "values_of": lambda: reading.values_of(*three), "Scanner": lambda: scanned(*three),
        "replaced": lambda: spans.replaced(*three, (), value), "starts": lambda: linking.starts(machine, other_machine), "links": lambda: linking.links(machine, other_machine),
        "do_spell_alike": lambda: alike.do_spell_alike(sort, format, other), "compared": lambda: alike.compared(sort, format, other),
        "shows_alike": lambda: alike.shows_alike(sort, format, other, alike.compared(sort, format, other)[1]), "shows_unlike": lambda: alike.shows_unlike(sort, format, other, value),
        "meeting": lambda: meeting.meeting(*pairs), "keeps_apart": lambda: meeting.keeps_apart(machine, other_machine, meeting.meeting(*pairs)[1]),
        "do_meet": lambda: meeting.do_meet(*both, value, sort, other, value), "widths_of": lambda: widths.widths_of(format), "with_widths": lambda: widths.with_widths(padded, (2,)),
        "least_widths": lambda: widths.least_widths(sort, padded, 1), "are_least_widths": lambda: widths.are_least_widths(sort, padded, 1, widths.least_widths(sort, padded, 1)),
        "least_between": lambda: widths.least_between(*listed, ";", 1), "is_least_between": lambda: widths.is_least_between(*listed, ";", 1, widths.least_between(*listed, ";", 1)),
        "lengths": lambda: counting.lengths(*both), "how_many": lambda: counting.how_many(*both, 3), "number_of": lambda: counting.number_of(*both, value),
        "value_at": lambda: counting.value_at(*both, 2), "standing": lambda: alone.standing(*both), "stands_alone": lambda: alone.stands_alone(machine, alone.standing(*both)[1]),
        "does_begin": lambda: alone.does_begin(*both, value, value), "written_row": lambda: streams.written_row(*both, given), "lookahead": lambda: streams.lookahead(*both),
        "shows_known": lambda: streams.shows_known(machine, *streams.lookahead(*both)[1:]), "shows_endless": lambda: streams.shows_endless(machine, *streams.lookahead(*both)[1:]),
        "RowReader": lambda: row_read(*three), "lot_steps": lambda: resync.lot_steps(machine, resync.first_lot(machine)), "resync": lambda: resync.resync(*both),
        "shows_settled": lambda: resync.shows_settled(machine, *resync.resync(*both)[1:]), "shows_lost": lambda: resync.shows_lost(machine, *resync.resync(*both)[1:]),
        "slips": lambda: slips.slips(*both), "rules_out_fewer": lambda: slips.rules_out_fewer(machine, 0, slips.slips(*both)[-1]), "differ_in": lambda: slips.differ_in(*both, value, value),
        "swaps": lambda: slips.swaps(*both), "keeps_swaps_out": lambda: slips.keeps_swaps_out(machine, slips.swaps(*both)[1]), "are_swapped": lambda: slips.are_swapped(*both, value, value),
        "nearest": lambda: nearest.nearest(*three), "no_nearer": lambda: nearest.no_nearer(machine, text, 0, nearest.nearest(*three)[2]),
        "is_nearest": lambda: nearest.is_nearest(*three, nearest.nearest(*three)), "corrected": lambda: mending.corrected(*three), "is_sure": lambda: mending.is_sure(*three, 1),
        "fitting": lambda: mending.fitting(*three), "sure_marks": lambda: sure.sure_marks(*three), "sure_parts": lambda: sure.sure_parts(*three),
        "sure_text": lambda: sure.sure_text(sort, format, other, text), "rewritten": lambda: sure.rewritten(sort, format, other, text), "Rewriter": lambda: rewriter_fed(sort, format, other, text),
        "including": lambda: including.including(*pairs), "shows_within": lambda: including.shows_within(machine, other_machine, including.including(*pairs)[1]),
        "same_texts": lambda: including.same_texts(*pairs), "shows_same": lambda: including.shows_same(machine, other_machine, including.same_texts(*pairs)[1:]),
        "is_outside": lambda: including.is_outside(*both, value, sort, other), "how_long": lambda: totals.how_long(*both), "how_often": lambda: totals.how_often(*both),
        "mean_length": lambda: totals.mean_length(*both), "shortest_form": lambda: totals.shortest_form(sort, (format, other)), "least_check": lambda: checking.least_check(*both, 1, 3),
        "is_least_check": lambda: checking.is_least_check(*both, 1, 3, checking.least_check(*both, 1, 3)), "telling_values": lambda: telling.telling_values(sort, (format, other)),
        "tells_all": lambda: telling.tells_all(sort, (format, other), telling.telling_values(sort, (format, other))), "written_by": lambda: telling.written_by(sort, (format, other), rows),
        "formats_for": lambda: guessing.formats_for(sort, ((value, text),)), "report": lambda: reports.report(*both), "differences": lambda: reports.differences(sort, format, other),
        "best_of": lambda: reports.best_of(sort, (format, other)), "Log": lambda: logged(*both, value, text), "Shelf": lambda: shelved(*both, value),
        "Shell": lambda: shell.Shell(shell.described(*both)).answer("report"), "run_lines": lambda: shell.run_lines(shell.described(*both), ["verdict", "lengths", "names", "what"])}


def asked_of_values(sort, format, value, text, items, marks):
    """Calls of the functions that tell of sorts, formats and values as such."""
    both = (sort, format)
    return {
        "check_sort": lambda: sorts.check_sort(sort), "is_sort": lambda: sorts.is_sort(sort), "is_value": lambda: sorts.is_value(sort, value),
        "how_many_values": lambda: sorts.how_many_values(sort), "check_format": lambda: formats.check_format(*both), "is_format": lambda: formats.is_format(*both),
        "plain_format": lambda: formats.plain_format(sort), "write": lambda: writing.write(*both, value), "score": lambda: scores.score(*both, value),
        "spelling": lambda: scores.spelling(*both, value), "value_of": lambda: scores.value_of(*both, items), "unspelled": lambda: scores.unspelled(*both, marks),
        "is_mark": lambda: scores.is_mark("".join(items[:1])), "text_of": lambda: scores.text_of(items), "marks_of": lambda: scores.marks_of(items),
        "spans": lambda: spans.spans(*both, value), "part_at": lambda: spans.part_at(sort, value, ()), "with_part": lambda: spans.with_part(sort, value, (), value),
        "changes_between": lambda: nearest.changes_between(text, "ab"), "lost_at": lambda: mending.lost_at(text, (0,)), "deeds_sort": lambda: shelves.deeds_sort(sort),
        "deeds_format": lambda: shelves.deeds_format(format), "sort_text": lambda: sources.sort_text(sort), "format_text": lambda: sources.format_text(format),
        "read_sort": lambda: sources.read_sort(sources.sort_text(sort)), "read_format": lambda: sources.read_format(sort, sources.format_text(format)),
        "value_text": lambda: plainvalues.value_text(sort, value), "read_value": lambda: plainvalues.read_value(sort, plainvalues.value_text(sort, value)),
        "read_values": lambda: plainvalues.read_values(sort, plainvalues.value_text(sort, value)), "described": lambda: shell.described(*both)}


def scanned(sort, format, text):
    scanner = reading.Scanner(sort, format)
    scanner.feed(text)
    return (scanner.size, scanner.can_end(), scanner.next_signs(), scanner.readings())


def row_read(sort, format, text):
    reader = streams.RowReader(sort, format)
    reader.feed(text)
    return (reader.told, reader.rest())


def rewriter_fed(sort, format, other, text):
    rewriter = sure.Rewriter(sort, format, other)
    return (rewriter.out, rewriter.feed(text), rewriter.end())


def logged(sort, format, value, text):
    log = logs.Log(sort, format, text)
    log.write(value)
    return (log.entries, log.text, log.loose, len(log))


def shelved(sort, format, value):
    shelf = shelves.Shelf(sort, format, "")
    shelf.do((0, ("a", value)))
    return (shelf.names(), shelf.value_of("a"), shelf.log().text, shelf.torn(1).names())


def spoil(thing):
    """Change whatever can be changed in what was handed out."""
    if type(thing) in (tuple, list):
        for part in thing:
            spoil(part)
    if type(thing) is dict:
        for part in list(thing.values()):
            spoil(part)
        thing.clear()
    if type(thing) is list:
        thing.append("spoiled")


class Examples(unittest.TestCase):
    def test_in_short(self):
        self.assertEqual((writing.write(PRICE, LOOSE, (1, 23)), writing.write(PRICE, LOOSE, (12, 3)), writing.write(PRICE, TIGHT, (12, 3))), ("123", "123", "1203"))
        self.assertEqual((verdicts.verdict(PRICE, LOOSE)[0], verdicts.verdict(PRICE, TIGHT)[0]), ("twins", "readable"))

    def test_the_interface_is_there(self):
        for name, words in INTERFACE.items():
            module = importlib.import_module(f"readagain.{name}")
            for word in words.split():
                self.assertEqual(getattr(module, word).__module__, f"readagain.{name}")
        for (name, word), (methods, _) in CLASSES.items():
            for method in methods.split():
                self.assertIn(method, vars(getattr(importlib.import_module(f"readagain.{name}"), word)))


class EqualAnswers(unittest.TestCase):
    def drawn(self, seed, many):
        rng = random.Random(seed)
        for _ in range(many):
            sort, format = rng.choice((some_pair(rng, False, 2), some_pair(rng, True, 2), some_cut_many(rng), (DIGITS, TWO), (WORD, QUOTED), (("one", 3), ("names", ("a", "ab", "c")))))
            other = rng.choice((format, ("pad", 3, "0", ">", format), ("cut", 5, format)))
            value = some_values(rng, sort, 1)[0]
            text = writing.write(sort, format, value)
            try:
                if max(len(machines.machine_of(sort, form)) for form in (format, other)) <= 60 and len(text) <= 60:
                    yield rng, asked_of(sort, format, other, value, rng.choice((text, text, text + "x", text[:-1])))
            except errors.TooLarge:
                pass

    def test_asked_twice_with_others_between(self):
        told_by = {}
        for rng, calls in self.drawn(311, 60):
            first = {name: answer(call) for name, call in calls.items()}
            kept = copy.deepcopy(first)
            for told in first.values():
                spoil(told)
            names = list(calls)
            rng.shuffle(names)
            for name in names:
                self.assertEqual(answer(calls[name]), kept[name], name)
                told_by.setdefault(name, set()).add(kept[name][0])
        for name, told in told_by.items():
            self.assertIn("told", told, name)
        self.assertEqual(set(told_by), {word for name, words in INTERFACE.items() if name != "errors" for word in words.split()})

    def test_arguments_are_left_as_they_were(self):
        machine = machines.machine_of(DIGITS, TWO)
        late = machines.machine_of(("one", 3), ("names", ("a", "ab", "c")))
        other = machines.machine_of(DIGITS, PADDED)
        one = ("one", 2), ("names", ("ab", "ba"))
        for judge, arguments in (
                (alike.shows_alike, (DIGITS, PADDED, TWO, alike.compared(DIGITS, PADDED, TWO)[1])), (streams.shows_known, (late, 1, streams.lookahead(("one", 3), ("names", ("a", "ab", "c")))[2])),
                (slips.rules_out_fewer, (machine, 1, slips.slips(DIGITS, TWO)[-1])), (nearest.no_nearer, (machine, "123", 1, nearest.nearest(DIGITS, TWO, "123")[2])),
                (nearest.is_nearest, (DIGITS, TWO, "123", nearest.nearest(DIGITS, TWO, "123"))), (checking.is_least_check, one + (2, 3, checking.least_check(*one, 2, 3))),
                (resync.shows_settled, (machines.machine_of(("one", 2), ("names", ("a;", "bb;"))), 3, resync.resync(("one", 2), ("names", ("a;", "bb;")))[2])),
                (verdicts.is_closed, (machine, verdicts.verdict(DIGITS, TWO)[1])), (alone.stands_alone, (machine, alone.standing(DIGITS, TWO)[1])),
                (including.shows_same, (other, machine, including.same_texts(DIGITS, PADDED, DIGITS, TWO)[1:])),
                (telling.tells_all, (DIGITS, (TWO, PADDED), telling.telling_values(DIGITS, (TWO, PADDED)))), (widths.are_least_widths, (PRICE, TIGHT, 4, widths.least_widths(PRICE, TIGHT, 4)))):
            kept = copy.deepcopy(arguments)
            self.assertIs(judge(*arguments), True, judge)
            self.assertEqual(arguments, kept)
            self.assertIs(judge(*arguments), True, judge)
        values, rows, lines = [1, 2], [(7, "07")], ["verdict", "what"]
        streams.written_row(DIGITS, TWO, values)
        telling.written_by(DIGITS, [TWO, FIGURES], rows)
        shell.run_lines(shell.described(DIGITS, TWO), lines)
        mending.lost_at("ab", values)
        self.assertEqual((values, rows, lines), ([1, 2], [(7, "07")], ["verdict", "what"]))

    def test_truth_values_are_no_integers(self):
        self.assertIs(sorts.is_value(DIGITS, 1), True)
        self.assertIs(sorts.is_value(DIGITS, True), False)
        self.assertIs(verdicts.are_twins(("int", 0, 1), ("skip",), 0, 1), True)
        self.assertIs(verdicts.are_twins(("int", 0, 1), ("skip",), 0, True), False)
        self.assertIs(formats.is_format(DIGITS, ("cut", 1, FIGURES)), True)
        self.assertIs(formats.is_format(DIGITS, ("cut", True, FIGURES)), False)


class TogetherTold(unittest.TestCase):
    """What the chapters tell of one format hangs together."""

    def hangs_together(self, sort, format):
        machine = machines.machine_of(sort, format)
        told = dict(reports.report(sort, format))
        twins = verdicts.verdict(sort, format)
        self.assertEqual(told["readable"], twins[0] == "readable")
        # Two values with one text have texts that differ in no sign.
        self.assertEqual(told["readable"], told["slips"] != 0)
        if told["alone"]:
            self.assertTrue(told["readable"])
        if told["late"] != -1:
            self.assertEqual(told["alone"], told["late"] == 0)
            self.assertTrue(told["readable"] or told["late"] is None)
            self.assertTrue(told["late"] is not None or told["end"] != -1)
        self.assertEqual(told["late"] == -1, told["end"] == -1)
        self.assertEqual(told["late"] == -1, told["lengths"][0] == 0)
        self.assertEqual(alike.compared(sort, format, format)[0], "alike")
        met = meeting.meeting(sort, format, sort, format)
        self.assertEqual((met[0], len(writing.write(sort, format, met[1]))), ("met", told["lengths"][0]))
        same = answer(lambda: including.same_texts(sort, format, sort, format))
        self.assertTrue(same == ("TooLarge", {"most": 2000}) or same[1][0] == "same")
        self.assertEqual(telling.telling_values(sort, (format, format)), ((), ((0, 1),)))
        if told["readable"]:
            self.assertEqual(counting.lengths(sort, format), told["lengths"])
            first = counting.value_at(sort, format, 0)
            self.assertEqual(counting.number_of(sort, format, first), 0)
            self.assertEqual(len(writing.write(sort, format, first)), told["lengths"][0])
        else:
            self.assertEqual(writing.write(sort, format, twins[1]), writing.write(sort, format, twins[2]))
            self.assertEqual(answer(lambda: reading.read(sort, format, writing.write(sort, format, twins[1])))[0], "ManyValues")
        self.assertEqual(answer(lambda: logs.Log(sort, format, ""))[0], "told" if told["alone"] and told["late"] != -1 else "BadFormat")
        self.assertEqual(answer(lambda: streams.RowReader(sort, format))[0], "BadFormat" if told["late"] in (-1, None) else "told")
        self.assertEqual(told["places"], len(machine))
        self.assertEqual(shell.run_lines(shell.described(sort, format), ["verdict", "alone"]), ["readable" if told["readable"] else "twins", "alone" if told["alone"] else "begins"])

    def values_hang_together(self, sort, format, value):
        text = writing.write(sort, format, value)
        self.assertEqual(reading.values_of(sort, format, text) is None or value in reading.values_of(sort, format, text), True)
        self.assertEqual(nearest.nearest(sort, format, text[:60])[0] == 0, reading.values_of(sort, format, text[:60]) != [])
        self.assertEqual(len(spans.spans(sort, format, value)), len(text))
        self.assertEqual(scores.spelling(sort, format, value)[:len(sure.sure_marks(sort, format, text))], sure.sure_marks(sort, format, text))
        self.assertEqual(plainvalues.read_value(sort, plainvalues.value_text(sort, value)), value)
        told = reading.values_of(sort, format, text)
        if told == [value]:
            self.assertEqual(reading.read(sort, format, text), value)
            self.assertEqual(sure.rewritten(sort, format, format, text), text)

    def test_drawn_formats(self):
        rng = random.Random(312)
        tried = 0
        while tried < 120:
            sort, format = rng.choice((some_pair(rng, False, 3), some_pair(rng, True, 3), some_cut_many(rng)))
            try:
                if len(machines.machine_of(sort, format)) > 80:
                    continue
            except errors.TooLarge:
                continue
            tried += 1
            with self.subTest((sort, format)):
                self.hangs_together(sort, format)
                for value in some_values(rng, sort, 3)[:3]:
                    if answer(lambda: reading.values_of(sort, format, writing.write(sort, format, value)))[0] == "told":
                        self.values_hang_together(sort, format, value)

    def test_finitely_many_values(self):
        rng = random.Random(313)
        tried = 0
        while tried < 80:
            sort, format = some_pair(rng, False, rng.choice((1, 2)))
            if sorts.how_many_values(sort) > 200:
                continue
            try:
                lengths = totals.how_long(sort, format)
            except errors.TooLarge:
                continue
            tried += 1
            told = dict(reports.report(sort, format))
            self.assertEqual((min(lengths), max(lengths)), told["lengths"])
            self.assertEqual(sum(lengths.values()), told["values"])
            if told["readable"]:
                for length, many in lengths.items():
                    self.assertEqual(counting.how_many(sort, format, length), many)
                texts = [writing.write(sort, format, value) for value in all_values(sort)]
                self.assertEqual([reading.read(sort, format, text) for text in texts], all_values(sort))


class FirstErrors(unittest.TestCase):
    """Of several errors the one listed first; TooLarge(500) ahead of the others, but for those that [9] names."""

    def raised(self, call):
        name, told = answer(call)
        return (name,) + tuple(told.values()) if name != "told" else None

    def test_too_large_is_ahead(self):
        many = ("many", INT, 0, None), ("many", "", "", "", "", HUGE)
        for call in (lambda: reading.read(INT, HUGE, None), lambda: reading.values_of(INT, HUGE, None), lambda: counting.lengths(INT, HUGE), lambda: counting.how_many(INT, HUGE, -1),
                     lambda: counting.value_at(INT, HUGE, -1), lambda: streams.lookahead(*many), lambda: streams.RowReader(*many), lambda: resync.resync(*many),
                     lambda: nearest.nearest(INT, HUGE, None), lambda: nearest.is_nearest(INT, HUGE, None, None), lambda: mending.corrected(INT, HUGE, None), lambda: mending.is_sure(INT, HUGE, None, None),
                     lambda: mending.fitting(INT, HUGE, None), lambda: sure.sure_marks(INT, HUGE, None), lambda: sure.sure_parts(INT, HUGE, None), lambda: spans.replaced(INT, HUGE, None, None, None),
                     lambda: logs.Log(*many, ""), lambda: shelves.Shelf(INT, HUGE, ""), lambda: reports.report(INT, HUGE), lambda: including.is_outside(INT, FIGURES, None, INT, HUGE),
                     lambda: totals.how_long(("int", -123456789, 987654321), HUGE), lambda: sure.Rewriter(INT, FIGURES, HUGE), lambda: sure.rewritten(INT, FIGURES, HUGE, "x"),
                     lambda: sure.sure_text(INT, FIGURES, HUGE, "x"), lambda: alike.compared(INT, FIGURES, HUGE)):
            self.assertEqual(self.raised(call), ("TooLarge", 500))

    def test_what_is_ahead_of_too_large(self):
        hexadecimal = ("figures", 16, "-", 1, 0, "", "")
        for call, name in (
                (lambda: alike.compared(INT, HUGE, hexadecimal), "BadPair"), (lambda: sure.sure_text(INT, HUGE, hexadecimal, None), "BadPair"), (lambda: sure.Rewriter(INT, HUGE, hexadecimal), "BadPair"),
                (lambda: sure.rewritten(INT, HUGE, hexadecimal, None), "BadPair"), (lambda: telling.telling_values(INT, (HUGE, hexadecimal)), "BadPair"), (lambda: totals.how_long(INT, HUGE), "BadThing"),
                (lambda: totals.shortest_form(INT, (HUGE,)), "BadThing"), (lambda: checking.least_check(INT, HUGE, 0, 2), "BadThing"), (lambda: checking.least_check(INT, HUGE, 1, 1), "BadThing"),
                (lambda: widths.least_widths(INT, HUGE, 1), "BadThing"), (lambda: widths.least_widths(INT, ("pad", 1, "0", "<", HUGE), 9), "BadThing")):
            self.assertEqual(self.raised(call)[0], name)

    def test_what_needs_no_machine(self):
        for call in (lambda: verdicts.are_twins(INT, HUGE, 1, 1), lambda: spans.spans(INT, HUGE, 7), lambda: alike.do_spell_alike(INT, HUGE, FIGURES), lambda: alike.shows_unlike(INT, HUGE, FIGURES, 7),
                     lambda: meeting.do_meet(INT, HUGE, 7, INT, HUGE, 7), lambda: widths.widths_of(HUGE), lambda: alone.does_begin(INT, HUGE, 1, 1), lambda: streams.written_row(INT, HUGE, [7]),
                     lambda: slips.differ_in(INT, HUGE, 1, 2), lambda: slips.are_swapped(INT, HUGE, 1, 2), lambda: telling.written_by(INT, (HUGE,), ()), lambda: including.is_outside(INT, HUGE, 7, DIGITS, TWO),
                     lambda: guessing.formats_for(INT, ((7, "7"),)), lambda: writing.write(INT, HUGE, 7), lambda: sources.format_text(HUGE), lambda: shell.Shell(shell.described(INT, HUGE))):
            self.assertIsNone(self.raised(call))


if __name__ == "__main__":
    unittest.main()
