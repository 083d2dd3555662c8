"""Points 24 to 26: waits without holes, distances, and which of two designs is never slower."""

import random
import unittest

from stagebelt.beats import beats_of
from stagebelt.designs import all_entries, is_design, with_paths, with_waits
from stagebelt.errors import BadDesign, BadEntry, NotMade
from stagebelt.rights import is_right
from stagebelt.speeds import distance, filled, has_holes, never_slower, slower_trace
from tests.reference_beats import (
    KINDS, TOLD, random_even_design, random_trace, reference_distance, reference_lasts, rightly, without_holes)
from tests.reference_belt import ENTRIES, random_design
from tests.reference_table import made_right
from tests.samples import (
    DESIGN, EARLIEST, LATEST, LEAST, NO_DESIGNS, NO_ENTRIES, PATHLESS, RIGHT, WITH_HOLES, with_part)

FREE = with_part(EARLIEST, 1, True)
ALL = with_waits(DESIGN, tuple(ENTRIES))

# All last places as late as can be, though all is read early.
LATE = (0, True, ((0, 7), (0, 0, 7), (0, 0, 7), (0, 0, 7), (0, 0, 7), (0, 7), (7,), (0, 7)), (), tuple(ENTRIES))


def times(told, *beats):
    """An entry with each of some numbers of beats."""
    return tuple(told + (d,) for d in beats)


class HolesTest(unittest.TestCase):
    def test_ordinary(self):
        told = ("order", "set", "sum")
        for waits, holes in (
                ((), False), (times(told, 1), False), (times(told, 2), True), (times(told, 7), True),
                (times(told, 1, 2), False), (times(told, 1, 3), True), (times(told, 1, 2, 3, 4, 5, 6, 7), False),
                (times(told, 1, 2, 3, 4, 5, 7), True), (times(told, 2, 3, 4, 5, 6, 7), True),
                (times(told, 1) + times(("wrong", "go", "out"), 2), True)):
            self.assertIs(has_holes(with_waits(DESIGN, waits)), holes, waits)

    def test_each_entry_for_itself(self):
        one, other = ("value", "load", "store", "a"), ("value", "load", "store", "b")
        self.assertIs(has_holes(with_waits(DESIGN, times(one, 1) + times(other, 2))), True)
        self.assertIs(has_holes(with_waits(DESIGN, times(one, 1, 2) + times(other, 1))), False)
        # What memory holds fills no hole.
        waits = times(("memory", "load", "store"), 1) + times(one, 2)
        self.assertIs(has_holes(with_waits(DESIGN, waits)), True)

    def test_samples(self):
        for design, holes in ((RIGHT, False), (PATHLESS, False), (WITH_HOLES, True), (ALL, False), (LATEST, False)):
            self.assertIs(has_holes(design), holes)

    def test_filled(self):
        told = ("order", "set", "sum")
        for waits, full in (
                ((), ()), (times(told, 1), times(told, 1)), (times(told, 3), times(told, 1, 2, 3)),
                (times(told, 7), times(told, *range(1, 8))), (times(told, 2, 4), times(told, 1, 2, 3, 4)),
                (times(told, 2) + times(("value", "set", "out", "a"), 2) + times(("wrong", "go", "out"), 1),
                 times(told, 1, 2) + times(("value", "set", "out", "a"), 1, 2) + times(("wrong", "go", "out"), 1))):
            self.assertEqual(filled(with_waits(DESIGN, waits)), with_waits(DESIGN, full))
        self.assertEqual(filled(WITH_HOLES), with_waits(DESIGN, LEAST + times(("wrong", "go", "out"), 1, 2)))
        for design in (RIGHT, PATHLESS, ALL, DESIGN):
            self.assertEqual(filled(design), design)

    def test_drawn_designs(self):
        source, found = random.Random(50), set()
        for _ in range(150):
            design = random_design(source)
            full = filled(design)
            self.assertTrue(is_design(full))
            self.assertEqual(full, without_holes(design))
            self.assertIs(has_holes(full), False)
            self.assertIs(has_holes(design), full != design)
            found.add(full != design)
        self.assertEqual(found, {True, False})

    def test_no_designs(self):
        for at, value in enumerate(NO_DESIGNS):
            with self.subTest(at):
                self.assertRaises(BadDesign, has_holes, value)
                self.assertRaises(BadDesign, filled, value)


class DistanceTest(unittest.TestCase):
    def test_ordinary(self):
        for many in range(8):
            for told in TOLD:
                design = with_waits(DESIGN, times(told, *range(1, many + 1)))
                for d in (1, 3, 7):
                    self.assertEqual(distance(design, told + (d,)), many + 1)
        for told in TOLD:
            self.assertEqual(distance(DESIGN, told + (1,)), 1)
            self.assertEqual(distance(ALL, told + (7,)), 8)

    def test_at_least_that_of_memory(self):
        for role in ("a", "b"):
            for memory, value, least in ((0, 2, 3), (2, 0, 3), (2, 2, 3), (3, 1, 4), (1, 3, 4), (7, 0, 8), (0, 0, 1)):
                waits = times(("memory", "load", "store"), *range(1, memory + 1))
                waits += times(("value", "load", "store", role), *range(1, value + 1))
                design = with_waits(DESIGN, waits)
                self.assertEqual(distance(design, ("value", "load", "store", role, 5)), least)
                self.assertEqual(distance(design, ("memory", "load", "store", 5)), memory + 1)
                self.assertEqual(distance(design, ("value", "sum", "store", role, 5)), 1)
                self.assertEqual(distance(design, ("value", "load", "sum", "a", 5)), 1)
                self.assertEqual(distance(design, ("memory", "store", "load", 5)), 1)

    def test_right_or_not(self):
        for design in (DESIGN, RIGHT):
            self.assertEqual(distance(design, ("value", "load", "sum", "a", 4)), 1 if design == DESIGN else 2)

    def test_drawn_designs(self):
        source = random.Random(51)
        for _ in range(60):
            design = without_holes(random_design(source))
            for entry in source.sample(ENTRIES, 30):
                self.assertEqual(distance(design, entry), reference_distance(design, entry[:-1]))

    def test_wrong_arguments(self):
        entry = ("order", "set", "set", 1)
        for value in NO_DESIGNS:
            self.assertRaises(BadDesign, distance, value, entry)
            self.assertRaises(BadDesign, distance, value, None)
        for value in NO_ENTRIES:
            self.assertRaises(BadEntry, distance, DESIGN, value)
            self.assertRaises(BadEntry, distance, WITH_HOLES, value)
        for design in (WITH_HOLES, with_waits(DESIGN, times(("value", "set", "out", "a"), 2))):
            for value in ENTRIES[::25]:
                self.assertRaises(NotMade, distance, design, value)


class SlowerTest(unittest.TestCase):
    ALONE = (("idle",), ("set", 0, 0), ("add", 0, 1, 1), ("mul", 0, 1, 1), ("load", 0, 2, 0), ("store", 3, 2, 0),
             ("zero", 2, 0), ("go", 0), ("out", 1))
    USERS = {("sum", "a"): ("add", 5, 0, 4), ("mul", "a"): ("mul", 5, 0, 4), ("load", "a"): ("load", 5, 0, 0),
             ("store", "a"): ("store", 4, 0, 0), ("store", "b"): ("store", 0, 3, 0), ("zero", "a"): ("zero", 0, 0),
             ("out", "a"): ("out", 0)}

    def instructions(self, told):
        """The two instructions of an entry that is told without its beats."""
        alone = dict(zip(KINDS, self.ALONE))
        later = self.USERS[told[2:]] if told[0] == "value" else alone[told[2]]
        return alone[told[1]], later

    def assert_slower(self, one, other, instructions):
        trace = rightly(instructions)
        self.assertEqual(slower_trace(one, other), trace)
        self.assertIs(never_slower(one, other), False)
        self.assertGreater(beats_of(one, trace), beats_of(other, trace))

    def test_equal(self):
        for design in (RIGHT, PATHLESS, FREE, ALL):
            self.assertIsNone(slower_trace(design, design))
            self.assertIs(never_slower(design, design), True)
        # Only waits and last places count.
        other = with_paths(RIGHT, ((3, 2), (4, 2), (6, 5)))
        self.assertIs(never_slower(RIGHT, other), True)
        self.assertIs(never_slower(other, RIGHT), True)

    def test_last_place_of_each_kind(self):
        for at, row in enumerate(LATE[2]):
            other = with_part(LATE, 2, with_part(LATE[2], at, row[:-1] + (6,)))
            self.assert_slower(LATE, other, (self.ALONE[at + 1],))
            self.assertIsNone(slower_trace(other, LATE))
            self.assertIs(never_slower(other, LATE), True)

    def test_first_kind_in_their_order(self):
        early = with_waits(FREE, tuple(ENTRIES))
        for first in range(8):
            one = with_part(early, 2, early[2][:first] + LATE[2][first:])
            self.assert_slower(one, early, (self.ALONE[first + 1],))
            # The kinds ahead may be slower in the other one.
            other = with_part(early, 2, LATE[2][:first] + early[2][first:])
            self.assert_slower(one, other, (self.ALONE[first + 1],))

    def test_each_distance(self):
        idle = (("idle",),) * 8
        for told in TOLD:
            for least in (1, 2, 7):
                one = with_waits(FREE, times(told, *range(1, least + 1)))
                for other in (FREE, with_waits(FREE, times(told, *range(1, least)))):
                    self.assert_slower(one, other, self.instructions(told) + idle)
                    self.assertIsNone(slower_trace(other, one))

    def test_least_entry(self):
        waits, idle = tuple(times(told, 1)[0] for told in TOLD), (("idle",),) * 8
        for at, told in enumerate(TOLD):
            one = with_waits(FREE, waits[at:])
            held = told[:3] == ("value", "load", "store")
            self.assert_slower(one, FREE, self.instructions(told) + idle)
            # All of the ones ahead are less with the first design.
            if not held:
                other = with_waits(FREE, waits[:at])
                self.assert_slower(one, other, self.instructions(told) + idle)

    def test_distance_of_memory_for_values(self):
        memory, value = ("memory", "load", "store"), ("value", "load", "store", "a")
        one, other = with_waits(FREE, times(value, 1)), with_waits(FREE, times(memory, 1))
        self.assertIs(never_slower(one, other), True)
        self.assert_slower(other, one, self.instructions(memory) + (("idle",),) * 8)
        other = with_waits(FREE, times(memory, 1) + times(value, 1, 2))
        one = with_waits(FREE, times(memory, 1, 2))
        self.assert_slower(other, with_waits(FREE, times(memory, 1)), self.instructions(value) + (("idle",),) * 8)
        self.assert_slower(one, other, self.instructions(memory) + (("idle",),) * 8)

    def test_kinds_ahead_of_entries(self):
        one = with_waits(with_part(FREE, 2, with_part(FREE[2], 7, (0, 3))), tuple(ENTRIES))
        self.assert_slower(one, FREE, (("out", 1),))
        self.assert_slower(one, with_part(FREE, 2, one[2]), (("load", 0, 2, 0), ("store", 3, 2, 0)) + (("idle",),) * 8)

    def test_samples(self):
        self.assertIs(never_slower(RIGHT, PATHLESS), True)
        self.assert_slower(PATHLESS, RIGHT, (("load", 0, 2, 0), ("load", 5, 0, 0)) + (("idle",),) * 8)
        self.assertIs(never_slower(FREE, RIGHT), True)
        self.assert_slower(RIGHT, FREE, (("set", 0, 0),))

    def test_drawn_designs(self):
        source, told = random.Random(52), []
        for _ in range(120):
            one, other = random_even_design(source), random_even_design(source)
            if source.random() < 0.7:
                # One that differs in few places or waits.
                rows = tuple(source.choice((row, row, row, new)) for row, new in zip(one[2], other[2]))
                near = one[:2] + (rows,) + source.choice((one, other))[3:]
                if is_design(near):
                    other = without_holes(made_right(near))
            lasts, other_lasts = reference_lasts(one), reference_lasts(other)
            never = all(lasts[kind] <= other_lasts[kind] for kind in KINDS) and all(
                reference_distance(one, entry) <= reference_distance(other, entry) for entry in TOLD)
            self.assertIs(never_slower(one, other), never)
            trace = slower_trace(one, other)
            told.append(never)
            if never:
                self.assertIsNone(trace)
                for _ in range(10):
                    drawn = random_trace(source, 20)
                    self.assertLessEqual(beats_of(one, drawn), beats_of(other, drawn))
            else:
                self.assertGreater(beats_of(one, trace), beats_of(other, trace), (one, other))
        self.assertGreater(told.count(True), 10)
        self.assertGreater(told.count(False), 10)


class WrongArgumentsTest(unittest.TestCase):
    def test_no_designs(self):
        for value in NO_DESIGNS:
            for function in (never_slower, slower_trace):
                self.assertRaises(BadDesign, function, value, RIGHT)
                self.assertRaises(BadDesign, function, RIGHT, value)
                self.assertRaises(BadDesign, function, value, value)
                # That one is wrong or has holes is told behind that the other is no design.
                self.assertRaises(BadDesign, function, DESIGN, value)
                self.assertRaises(BadDesign, function, value, WITH_HOLES)

    def test_not_made(self):
        holes = with_waits(DESIGN, all_entries()[1:])
        self.assertEqual((is_right(WITH_HOLES), is_right(DESIGN), has_holes(holes)), (True, False, True))
        for value in (DESIGN, WITH_HOLES, holes, with_waits(DESIGN, LEAST[1:])):
            for function in (never_slower, slower_trace):
                for other in (RIGHT, value, FREE):
                    self.assertRaises(NotMade, function, value, other)
                    self.assertRaises(NotMade, function, other, value)
