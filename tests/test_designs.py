"""Points 8 to 10, and of point 21 with_waits and with_paths: designs, entries and places."""

import copy
import itertools
import random
import unittest

from stagebelt.designs import (
    all_entries, effect_place, is_design, is_entry, last_place, place_of, with_paths, with_waits)
from stagebelt.errors import BadDesign, BadKind, BadPaths, BadWaits
from tests.reference_belt import ENTRIES, PATHS, WORDS, random_design, row_fits
from tests.samples import (
    DESIGN, EARLIEST, LATEST, NO_DESIGNS, NO_ENTRIES, NO_INTEGERS, NO_PATHS, NO_TUPLES, NO_WAITS, with_part)

KINDS = ("idle",) + tuple(WORDS)

# Places that go with each place of reading but 7.
LATE = ((0, 7), (6, 6, 7), (6, 6, 7), (6, 6, 7), (6, 6, 7), (7, 7), (0,), (7, 7))

NO_KINDS = NO_INTEGERS + ("", "add", "sub", "and", "less", "Set", "set ", "jump", "made", 0, 1, ("set",), ["set"])


class IsDesignTest(unittest.TestCase):
    def test_ordinary(self):
        for design in (DESIGN, EARLIEST, LATEST, DESIGN[:3] + (tuple(PATHS), tuple(ENTRIES))):
            self.assertIs(is_design(design), True)
        source = random.Random(10)
        for _ in range(300):
            self.assertIs(is_design(random_design(source)), True)

    def test_no_designs(self):
        for at, value in enumerate(NO_DESIGNS):
            with self.subTest(at):
                self.assertIs(is_design(value), False)

    def test_orders_of_places(self):
        """Every row of places of each kind with every place of reading."""
        for at, (kind, words) in enumerate(WORDS.items()):
            for read in range(8):
                for row in itertools.product(range(8), repeat=len(words)):
                    design = (read, True, with_part(LATE, at, row), (), ())
                    fits = read <= 6 and row_fits(kind, row, read)
                    self.assertIs(is_design(design), fits, (kind, read, row))

    def test_edges_of_orders(self):
        for at, right, wrong in (
                (0, ((0, 2), (3, 4), (6, 7)), ((2, 2), (0, 1), (4, 3), (7, 7))),
                (1, ((1, 1, 2), (1, 6, 7), (6, 6, 7)), ((0, 1, 2), (2, 1, 3), (1, 2, 2), (1, 3, 2))),
                (2, ((1, 1, 2), (1, 6, 7), (6, 6, 7)), ((0, 1, 2), (2, 1, 3), (1, 2, 2), (1, 3, 2))),
                (3, ((1, 1, 2), (1, 6, 7), (6, 6, 7)), ((0, 1, 2), (2, 1, 3), (1, 2, 2), (1, 3, 2))),
                (4, ((1, 1, 2), (6, 1, 7), (1, 6, 7)), ((0, 1, 2), (1, 0, 2), (2, 1, 2), (1, 2, 2), (3, 3, 2))),
                (5, ((1, 1), (7, 7), (1, 7)), ((0, 0), (0, 1), (2, 1))),
                (6, ((0,), (1,), (7,)), ((8,), (-1,), ())),
                (7, ((1, 1), (7, 7), (1, 7)), ((0, 0), (0, 1), (2, 1)))):
            for rows, told in ((right, True), (wrong, False)):
                for row in rows:
                    with self.subTest(at, row=row):
                        self.assertIs(is_design(with_part(DESIGN, 2, with_part(DESIGN[2], at, row))), told)

    def test_wrong_places(self):
        for at, row in enumerate(DESIGN[2]):
            for k in range(len(row)):
                for value in NO_INTEGERS + (-1, 8, 10 ** 5000):
                    wrong = with_part(DESIGN[2], at, with_part(row, k, value))
                    self.assertIs(is_design(with_part(DESIGN, 2, wrong)), False)
            for value in NO_TUPLES + ((), list(row), row + (7,), row[:-1], (row,)):
                wrong = with_part(DESIGN[2], at, value)
                self.assertIs(is_design(with_part(DESIGN, 2, wrong)), False)


class EntriesTest(unittest.TestCase):
    def test_all_entries(self):
        self.assertEqual(all_entries(), tuple(ENTRIES))
        self.assertIs(type(all_entries()), tuple)
        self.assertEqual(len(all_entries()), 406)
        self.assertEqual(all_entries(), tuple(sorted(set(all_entries()))))
        self.assertEqual(all_entries()[0], ("memory", "load", "store", 1))
        self.assertEqual(all_entries()[-1], ("wrong", "zero", "sum", 7))
        counts = {}
        for entry in all_entries():
            counts[entry[0]] = counts.get(entry[0], 0) + 1
        self.assertEqual(counts, {"memory": 14, "order": 112, "value": 196, "wrong": 84})

    def test_is_entry(self):
        for entry in ENTRIES:
            self.assertIs(is_entry(entry), True)
        for at, value in enumerate(NO_ENTRIES):
            with self.subTest(at):
                self.assertIs(is_entry(value), False)

    def test_every_pair_of_kinds(self):
        """Of all tuples of the words that entries are made of, just those that are listed are entries."""
        rules = ("value", "order", "memory", "wrong", "idle")
        heads = {entry[:-1] for entry in ENTRIES}
        for rule, one, other, d in itertools.product(rules, KINDS + ("add",), KINDS + ("add",), range(-1, 9)):
            for head in ((rule, one, other), (rule, one, other, "a"), (rule, one, other, "b")):
                self.assertIs(is_entry(head + (d,)), head in heads and 1 <= d <= 7, head + (d,))

    def test_parts_of_entries(self):
        for entry in (("value", "set", "sum", "a", 1), ("order", "set", "set", 1), ("memory", "store", "load", 7)):
            for at in range(len(entry)):
                for value in NO_INTEGERS + (0, 8, ("a",)):
                    self.assertIs(is_entry(with_part(entry, at, value)), False)


class PlacesTest(unittest.TestCase):
    def test_ordinary(self):
        found = {(kind, word): place_of(DESIGN, kind, word) for kind, words in WORDS.items() for word in words}
        self.assertEqual(found, {
            ("set", "made"): 1, ("set", "written"): 4,
            ("sum", "used"): 2, ("sum", "made"): 2, ("sum", "written"): 4,
            ("mul", "used"): 2, ("mul", "made"): 2, ("mul", "written"): 4,
            ("load", "used"): 2, ("load", "fetched"): 3, ("load", "written"): 4,
            ("store", "used a"): 2, ("store", "used b"): 2, ("store", "put"): 3,
            ("zero", "used"): 2, ("zero", "decided"): 2, ("go", "decided"): 1,
            ("out", "used"): 2, ("out", "shown"): 2})
        self.assertEqual(place_of(DESIGN, "load", "made"), 3)

    def test_each_place_is_its_own(self):
        rows = ((0, 7), (1, 2, 4), (2, 3, 5), (3, 5, 6), (4, 3, 7), (5, 6), (7,), (1, 6))
        design = (1, False, rows, (), ())
        for kind, row in zip(WORDS, rows):
            self.assertEqual(tuple(place_of(design, kind, word) for word in WORDS[kind]), row)
        self.assertEqual(place_of(design, "load", "made"), 5)
        self.assertEqual([effect_place(design, kind) for kind in KINDS], [None, 7, 4, 5, 6, 7, None, None, 6])
        self.assertEqual([last_place(design, kind) for kind in KINDS], [0, 7, 4, 5, 6, 7, 6, 7, 6])

    def test_effect_and_last_place(self):
        self.assertEqual([effect_place(DESIGN, kind) for kind in KINDS], [None, 4, 4, 4, 4, 3, None, None, 2])
        self.assertEqual([last_place(DESIGN, kind) for kind in KINDS], [0, 4, 4, 4, 4, 3, 2, 1, 2])
        self.assertEqual([last_place(EARLIEST, kind) for kind in KINDS], [0, 1, 1, 1, 1, 1, 0, 0, 0])
        self.assertEqual([effect_place(EARLIEST, kind) for kind in KINDS], [None, 1, 1, 1, 1, 1, None, None, 0])
        self.assertEqual([last_place(LATEST, kind) for kind in KINDS], [0] + [7] * 8)

    def test_words_that_a_kind_does_not_have(self):
        every = {word for words in WORDS.values() for word in words} | {
            "", "read", "Used", "used c", "a", "b", "effect", "last", "used ", "mad", 0, 1}
        for kind in KINDS:
            words = WORDS.get(kind, ()) + (("made",) if kind == "load" else ())
            for word in every:
                with self.subTest(kind, word=word):
                    if word in words:
                        self.assertIn(place_of(DESIGN, kind, word), range(8))
                    else:
                        self.assertRaises(BadKind, place_of, DESIGN, kind, word)
            for value in NO_INTEGERS + (("made",), ["made"]):
                self.assertRaises(BadKind, place_of, DESIGN, kind, value)

    def test_no_kinds(self):
        for value in NO_KINDS:
            with self.subTest(value):
                self.assertRaises(BadKind, place_of, DESIGN, value, "made")
                self.assertRaises(BadKind, place_of, DESIGN, value, None)
                self.assertRaises(BadKind, effect_place, DESIGN, value)
                self.assertRaises(BadKind, last_place, DESIGN, value)

    def test_no_designs(self):
        for at, value in enumerate(NO_DESIGNS):
            with self.subTest(at):
                self.assertRaises(BadDesign, place_of, value, "set", "made")
                self.assertRaises(BadDesign, place_of, value, None, None)
                self.assertRaises(BadDesign, effect_place, value, "idle")
                self.assertRaises(BadDesign, effect_place, value, "")
                self.assertRaises(BadDesign, last_place, value, "idle")
                self.assertRaises(BadDesign, last_place, value, [])


class WithTest(unittest.TestCase):
    def test_with_waits(self):
        design = with_waits(DESIGN, tuple(ENTRIES[::7]))
        self.assertEqual(design, DESIGN[:4] + (tuple(ENTRIES[::7]),))
        self.assertEqual(with_waits(design, ()), DESIGN)
        self.assertEqual(with_waits(DESIGN, all_entries())[4], tuple(ENTRIES))

    def test_with_paths(self):
        design = with_paths(DESIGN, ((1, 0), (7, 6)))
        self.assertEqual(design, DESIGN[:3] + (((1, 0), (7, 6)), ()))
        self.assertEqual(with_paths(with_waits(DESIGN, tuple(ENTRIES)), ())[3:], ((), tuple(ENTRIES)))
        self.assertEqual(with_paths(design, tuple(PATHS))[3], tuple(PATHS))

    def test_no_waits(self):
        for at, value in enumerate(NO_WAITS):
            with self.subTest(at), self.assertRaises(BadWaits):
                with_waits(DESIGN, value)

    def test_no_paths(self):
        for at, value in enumerate(NO_PATHS):
            with self.subTest(at), self.assertRaises(BadPaths):
                with_paths(DESIGN, value)

    def test_no_designs(self):
        for at, value in enumerate(NO_DESIGNS):
            with self.subTest(at):
                self.assertRaises(BadDesign, with_waits, value, ())
                self.assertRaises(BadDesign, with_waits, value, None)
                self.assertRaises(BadDesign, with_paths, value, ())
                self.assertRaises(BadDesign, with_paths, value, None)

    def test_not_modified(self):
        waits, paths, design = [["order", "set", "set", 1]], [[2, 1]], list(DESIGN)
        kept = copy.deepcopy((waits, paths, design))
        self.assertRaises(BadWaits, with_waits, DESIGN, waits)
        self.assertRaises(BadPaths, with_paths, DESIGN, paths)
        self.assertRaises(BadDesign, with_paths, design, paths)
        self.assertEqual((waits, paths, design), kept)
