"""Points 17 to 21: open and missing entries, what shows them, and the waits and paths that spare them."""

import random
import unittest

from stagebelt.belts import run
from stagebelt.designs import all_entries, with_paths, with_waits
from stagebelt.errors import (
    BadDesign, BadEntries, BadEntry, BadGuesser, BadPath, BadProgram, BadState, NotMade, TooLong)
from stagebelt.plain import ended, ran
from stagebelt.rights import (
    first_shown, is_open, is_right, least_waits, missing, open_entries, paths_for, shown, shows, spared_by)
from tests.reference_belt import ENTRIES, PATHS, random_design, random_run
from tests.reference_table import (
    made_right, reference_is_open, reference_missing, reference_open, reference_shown)
from tests.samples import (
    DESIGN, EARLIEST, LATEST, LEAST, NO_DESIGNS, NO_ENTRIES, NO_GUESSERS, NO_INTEGERS, NO_PROGRAMS, NO_STATES,
    NO_TUPLES, PATHLESS, RIGHT, with_part)
from tests.test_runs import program_of_beats

SET, SUM, MUL, LOAD, STORE, ZERO, GO, OUT = range(8)
BEATS = range(1, 8)
NEXT = ("next",)

# The state of the document's table.
STATE = ((0, 2, 0, 5, 6, 0, 0, 0), (7, 3, 9, 8, 1, 2, 11, 12, 13, 14, 15, 16, 17, 18, 19, 20), ())

# Of these, some are right as tuples of other things, but none as a path.
NO_SINGLE_PATHS = NO_TUPLES + NO_INTEGERS[6:] + (
    (), (1,), (2, 1, 0), [2, 1], "21", (2, 2), (1, 2), (0, 0), (8, 0), (1, -1), (True, 0), (2, True), (1, False),
    (2, None), (2, "1"), (2, [1]), ((2, 1),), {2: 1}, (10 ** 5000, 0), (7, 8),
)

VALUE = ("value", "load", "sum", "a", 1)

NO_VALUE_ENTRIES = NO_TUPLES + tuple((item,) for item in NO_ENTRIES) + (
    VALUE, (VALUE, VALUE), (VALUE[:-1] + (2,), VALUE), (VALUE, ("value", "load", "out", "a", 1)), (VALUE, None),
    (("order", "set", "set", 1),), (("memory", "load", "store", 1), VALUE), (VALUE, ("wrong", "go", "out", 1)),
    (VALUE, ("value",)), (VALUE, list(VALUE)), [VALUE], {VALUE: 1}, (VALUE, 1),
)


def design_with(*rows, read=1, same=True, paths=(), waits=()):
    """The sample design with other rows of places, as pairs (number of the kind, row)."""
    places = DESIGN[2]
    for at, row in rows:
        places = with_part(places, at, row)
    return read, same, places, paths, waits


def open_beats(design, *told):
    """The beats with which an entry is open."""
    return [d for d in BEATS if is_open(design, told + (d,))]


class ValueTest(unittest.TestCase):
    def test_by_reading(self):
        # Read at place 1, written at place 4.
        for kind in ("set", "sum", "mul", "load"):
            for use in (("sum", "a"), ("store", "a"), ("store", "b"), ("zero", "a"), ("out", "a")):
                self.assertEqual(open_beats(design_with(), "value", kind, *use), [1, 2])
                self.assertEqual(open_beats(design_with(same=False), "value", kind, *use), [1, 2, 3])

    def test_from_place_0_to_place_7(self):
        for same, told in ((True, list(range(1, 7))), (False, list(BEATS))):
            design = design_with((SET, (6, 7)), (SUM, (0, 0, 7)), read=0, same=same)
            self.assertEqual(open_beats(design, "value", "set", "out", "a"), told)
            self.assertEqual(open_beats(design, "value", "sum", "sum", "a"), told)

    def test_neighbouring_places(self):
        for design in (EARLIEST, LATEST):
            for same, told in ((True, []), (False, [1])):
                self.assertEqual(open_beats(with_part(design, 1, same), "value", "set", "out", "a"), told)

    def test_by_paths(self):
        # Used at place 2, so these paths are for d = 1 and d = 2; the load has its word at place 3 only.
        for paths, told, told_of_load in (
                (((3, 2),), [2], [1, 2]), (((4, 2),), [1], [1]), (((3, 2), (4, 2)), [], [1]),
                (((3, 1), (4, 3), (5, 2)), [1, 2], [1, 2])):
            design = design_with(paths=paths)
            for kind in ("set", "sum", "mul"):
                self.assertEqual(open_beats(design, "value", kind, "out", "a"), told)
            self.assertEqual(open_beats(design, "value", "load", "out", "a"), told_of_load)

    def test_path_only_beyond_the_place_made(self):
        paths = tuple((q, 2) for q in range(3, 8))
        for made, told in ((2, []), (3, [1]), (4, [1, 2]), (6, [1, 2, 3, 4])):
            design = design_with((SUM, (2, made, 7)), (MUL, (2, made, 7)), (LOAD, (2, made, 7)), (SET, (made, 7)),
                                 paths=paths, same=False)
            for kind in ("sum", "mul", "load", "set"):
                # At d = 6 no path leads from place 8, so this one stays open.
                self.assertEqual(open_beats(design, "value", kind, "zero", "a"), told + [6])

    def test_paths_from_place_7_to_place_0(self):
        design = design_with((SET, (0, 7)), (OUT, (0, 0)), read=0, same=False, paths=((7, 0),))
        self.assertEqual(open_beats(design, "value", "set", "out", "a"), [1, 2, 3, 4, 5, 6])
        design = with_paths(design, tuple((q, 0) for q in range(1, 8)))
        self.assertEqual(open_beats(design, "value", "set", "out", "a"), [])

    def test_each_use_has_its_place(self):
        rows = ((SET, (1, 7)), (SUM, (2, 2, 7)), (MUL, (3, 3, 7)), (LOAD, (4, 4, 7)), (STORE, (5, 6, 7)), (ZERO, (1, 1)),
                (OUT, (6, 7)))
        for use, u in ((("sum", "a"), 2), (("mul", "a"), 3), (("load", "a"), 4), (("store", "a"), 5),
                       (("store", "b"), 6), (("zero", "a"), 1), (("out", "a"), 6)):
            design = design_with(*rows, paths=((u + 1, u),))
            told = [2, 3, 4, 5]
            self.assertEqual(open_beats(design, "value", "set", *use), told)


class OtherRulesTest(unittest.TestCase):
    def test_order(self):
        design = design_with((SET, (0, 7)), (SUM, (1, 1, 2)), (MUL, (1, 1, 5)), (LOAD, (1, 1, 6)))
        for earlier, later, told in (
                ("set", "sum", [1, 2, 3, 4]), ("set", "mul", [1]), ("set", "load", []), ("load", "sum", [1, 2, 3]),
                ("mul", "sum", [1, 2]), ("sum", "set", []), ("sum", "mul", []), ("load", "set", [])):
            for same in (True, False):
                self.assertEqual(open_beats(with_part(design, 1, same), "order", earlier, later), told)
        for kind in ("set", "sum", "mul", "load"):
            self.assertEqual(open_beats(design, "order", kind, kind), [])

    def test_order_of_places_1_and_7(self):
        design = design_with((SET, (0, 1)), (MUL, (0, 0, 7)), read=0)
        self.assertEqual(open_beats(design, "order", "mul", "set"), [1, 2, 3, 4, 5])

    def test_load_behind_a_store(self):
        for fetched, put, same, told in (
                (3, 3, True, []), (3, 3, False, []), (3, 4, True, []), (3, 4, False, [1]), (3, 6, True, [1, 2]),
                (3, 6, False, [1, 2, 3]), (2, 7, True, [1, 2, 3, 4]), (2, 7, False, [1, 2, 3, 4, 5]), (6, 2, False, [])):
            design = design_with((LOAD, (2, fetched, 7)), (STORE, (1, 1, put)), same=same)
            self.assertEqual(open_beats(design, "memory", "store", "load"), told, (fetched, put, same))

    def test_store_behind_a_load(self):
        for fetched, put, same, told in (
                (3, 3, True, []), (4, 3, True, [1]), (4, 3, False, []), (6, 3, True, [1, 2, 3]), (6, 3, False, [1, 2]),
                (2, 7, True, []), (6, 2, True, [1, 2, 3, 4]), (6, 2, False, [1, 2, 3])):
            design = design_with((LOAD, (2, fetched, 7)), (STORE, (1, 1, put)), same=same)
            self.assertEqual(open_beats(design, "memory", "load", "store"), told, (fetched, put, same))

    def test_memory_from_place_0_to_place_7(self):
        design = (0, False, with_part(with_part(EARLIEST[2], STORE, (0, 0, 7)), LOAD, (0, 0, 7)), (), ())
        self.assertEqual(open_beats(design, "memory", "store", "load"), list(BEATS))
        self.assertEqual(open_beats(with_part(design, 1, True), "memory", "store", "load"), [1, 2, 3, 4, 5, 6])
        design = (0, True, with_part(with_part(EARLIEST[2], STORE, (0, 0, 1)), LOAD, (0, 6, 7)), (), ())
        self.assertEqual(open_beats(design, "memory", "load", "store"), [1, 2, 3, 4, 5])

    def test_wrong(self):
        rows = ((SET, (0, 2)), (SUM, (1, 1, 3)), (MUL, (1, 1, 4)), (LOAD, (1, 1, 5)), (STORE, (1, 1, 6)), (OUT, (1, 1)))
        design = design_with(*rows, (ZERO, (1, 7)), (GO, (4,)))
        for later, told, told_of_go in (
                ("set", [1, 2, 3, 4, 5], [1, 2]), ("sum", [1, 2, 3, 4], [1]), ("mul", [1, 2, 3], []),
                ("load", [1, 2], []), ("store", [1], []), ("out", [1, 2, 3, 4, 5, 6], [1, 2, 3])):
            for same in (True, False):
                self.assertEqual(open_beats(with_part(design, 1, same), "wrong", "zero", later), told)
                self.assertEqual(open_beats(with_part(design, 1, same), "wrong", "go", later), told_of_go)

    def test_wrong_from_place_0_to_place_7(self):
        design = (0, True, with_part(with_part(EARLIEST[2], GO, (7,)), ZERO, (0, 0)), (), ())
        self.assertEqual(open_beats(design, "wrong", "go", "out"), list(BEATS))
        self.assertEqual(open_beats(design, "wrong", "go", "set"), [1, 2, 3, 4, 5, 6])
        self.assertEqual(open_beats(design, "wrong", "zero", "out"), [])


class OpenTest(unittest.TestCase):
    def test_waits_do_not_count(self):
        for waits in ((), LEAST, tuple(ENTRIES)):
            self.assertEqual(open_entries(with_waits(DESIGN, waits)), LEAST)

    def test_as_the_second_table(self):
        source = random.Random(20)
        for _ in range(150):
            design = random_design(source)
            told = tuple(reference_open(design))
            self.assertEqual(open_entries(design), told)
            self.assertEqual(tuple(entry for entry in all_entries() if is_open(design, entry)), told)

    def test_kinds_of_values(self):
        self.assertIs(is_open(DESIGN, LEAST[0]), True)
        self.assertIs(is_open(DESIGN, VALUE[:-1] + (2,)), False)
        self.assertIs(type(open_entries(DESIGN)), tuple)
        self.assertEqual(open_entries(with_part(EARLIEST, 1, True)), ())


class MissingTest(unittest.TestCase):
    def test_held_by_waits(self):
        self.assertEqual(missing(DESIGN), LEAST)
        self.assertEqual(missing(RIGHT), ())
        for at, entry in enumerate(LEAST):
            self.assertEqual(missing(with_waits(DESIGN, (entry,))), LEAST[:at] + LEAST[at + 1:])
            self.assertEqual(missing(with_waits(DESIGN, LEAST[:at] + LEAST[at + 1:])), (entry,))
        others = tuple(entry for entry in ENTRIES if entry not in LEAST and entry != ("memory", "load", "store", 1))
        self.assertEqual(missing(with_waits(DESIGN, others)), LEAST)

    def test_held_by_memory(self):
        stores = (("value", "load", "store", "a", 1), ("value", "load", "store", "b", 1))
        held = tuple(entry for entry in LEAST if entry not in stores)
        self.assertEqual(missing(with_waits(DESIGN, (("memory", "load", "store", 1),))), held)
        for entry in (("memory", "load", "store", 2), ("memory", "store", "load", 1), ("order", "load", "load", 1)):
            self.assertEqual(missing(with_waits(DESIGN, (entry,))), LEAST)

    def test_memory_holds_each_number_of_beats_alone(self):
        design = design_with(same=False)
        for d in (1, 2, 3):
            told = missing(with_waits(design, (("memory", "load", "store", d),)))
            gone = [entry for entry in open_entries(design) if entry not in told]
            self.assertEqual(gone, [("value", "load", "store", "a", d), ("value", "load", "store", "b", d)])

    def test_is_right(self):
        for design, told in (
                (DESIGN, False), (RIGHT, True), (PATHLESS, True), (with_waits(PATHLESS, LEAST), False),
                (with_waits(DESIGN, tuple(ENTRIES)), True), (EARLIEST, False), (with_part(EARLIEST, 1, True), True)):
            self.assertIs(is_right(design), told)
        for at in range(len(PATHLESS[4])):
            self.assertIs(is_right(with_waits(PATHLESS, PATHLESS[4][:at] + PATHLESS[4][at + 1:])), False)

    def test_as_the_second_table(self):
        source = random.Random(21)
        for _ in range(150):
            design = random_design(source)
            told = tuple(reference_missing(design))
            self.assertEqual(missing(design), told)
            self.assertEqual(is_right(design), told == ())


class ShowsTest(unittest.TestCase):
    def test_ordinary(self):
        program = (("load", 0, 2, 1), ("add", 5, 0, 4))
        self.assertIs(shows(DESIGN, program, STATE, NEXT), True)
        self.assertIs(shows(RIGHT, program, STATE, NEXT), False)
        # Between the two is one more, so they do not meet any more.
        self.assertIs(shows(DESIGN, (program[0], ("idle",), program[1]), STATE, NEXT), False)
        self.assertIs(shows(DESIGN, (), STATE, NEXT), False)

    def test_run_without_an_end(self):
        loop = (("load", 0, 2, 1), ("out", 0), ("go", 0))
        self.assertIs(shows(DESIGN, loop, STATE, ("goal",)), False)
        # On the belt, where the zero takes the old word, the loop is reached, plainly it is not.
        program = (("sub", 3, 3, 3), ("zero", 3, 3), ("go", 2))
        self.assertEqual(ended(program, STATE)[1], 2)
        self.assertRaises(TooLong, run, EARLIEST, program, STATE, NEXT)
        self.assertIs(shows(EARLIEST, program, STATE, NEXT), False)

    def test_run_up_to_beat_1000(self):
        pair = (("load", 0, 2, 1), ("add", 5, 0, 4))
        program, state = program_of_beats(994)
        self.assertEqual(run(DESIGN, program + pair, state, NEXT)[2], 1000)
        self.assertIs(shows(DESIGN, program + pair, state, NEXT), True)
        self.assertRaises(TooLong, run, DESIGN, program + (("idle",),) + pair, state, NEXT)
        self.assertIs(shows(DESIGN, program + (("idle",),) + pair, state, NEXT), False)

    def test_plain_program_without_an_end(self):
        program = (("set", 0, 3), ("zero", 0, 3), ("go", 2))
        self.assertEqual(run(EARLIEST, program, STATE, NEXT)[1], 2)
        self.assertRaises(TooLong, ended, program, STATE)
        self.assertIs(shows(EARLIEST, program, STATE, NEXT), False)

    def test_plain_program_up_to_1000_instructions(self):
        # On the belt the first zero takes the old word, so the loop is left out.
        state = with_part(STATE, 0, (0, 1) + (0,) * 6)
        for idle, told in ((0, True), (1, False)):
            program = (("set", 0, 333), ("zero", 0, 5 + idle), ("sub", 0, 0, 1), ("zero", 0, 5), ("go", 2))
            program += (("idle",),) * idle
            self.assertEqual(run(EARLIEST, program, state, NEXT)[1], 2)
            self.assertEqual(ran(program, state, 1000)[1:], (5, 1000))
            self.assertIs(shows(EARLIEST, program, state, NEXT), told)

    def test_numbers_of_instructions_alone(self):
        # Both ways lead to one state, but one is longer.
        program = (("set", 0, 1), ("zero", 0, 3), ("idle",), ("idle",))
        (state, done), (belt_state, belt_done, _) = ended(program, STATE), run(EARLIEST, program, STATE, NEXT)
        self.assertEqual((state, done), (belt_state, belt_done + 1))
        self.assertIs(shows(EARLIEST, program, STATE, NEXT), True)

    def test_states_alone(self):
        program = (("set", 0, 1), ("out", 0))
        self.assertEqual(ended(program, STATE)[1], run(EARLIEST, program, STATE, NEXT)[1])
        self.assertIs(shows(EARLIEST, program, STATE, NEXT), True)

    def test_errors_as_for_run(self):
        for error, values, at in ((BadDesign, NO_DESIGNS, 0), (BadProgram, NO_PROGRAMS, 1), (BadState, NO_STATES, 2),
                                  (BadGuesser, NO_GUESSERS, 3)):
            right = (DESIGN, (("go", 0),), STATE, ("goal",))
            for value in values:
                self.assertRaises(error, shows, *right[:at], value, *right[at + 1:])
                self.assertRaises(error, shows, *right[:at], value, *(None,) * (3 - at))
        with self.assertRaises(BadProgram) as caught:
            shows(DESIGN, (("idle",), ("go", 3)), None, None)
        self.assertEqual(caught.exception.index, 1)

    def test_as_runs_tell(self):
        source, told = random.Random(22), []
        for _ in range(150):
            arguments = random_run(source)
            try:
                wrong = run(*arguments)[:2] != ended(*arguments[1:3])
            except ValueError:
                wrong = False
            self.assertIs(shows(*arguments), wrong)
            told.append(wrong)
        self.assertEqual(set(told), {True, False})


class ShownTest(unittest.TestCase):
    # Read at place 0 and written at place 7, so that "value" entries are open for each d but 7.
    OPEN = (0, True, ((5, 7), (0, 5, 7), (0, 5, 7), (0, 6, 7), (0, 0, 6), (0, 7), (7,), (0, 1)), (), ())

    def assert_shown(self, design, entry, program, guesser):
        self.assertEqual(shown(design, entry), (program, STATE, guesser))
        self.assertIs(shows(design, program, STATE, guesser), True)

    def test_value(self):
        idle = (("idle",),)
        for d in (1, 2, 6):
            for kind, one in (("set", ("set", 0, 3)), ("sum", ("add", 0, 1, 1)), ("mul", ("mul", 0, 1, 1)),
                              ("load", ("load", 0, 2, 1))):
                for use, other in (
                        (("sum", "a"), ("add", 5, 0, 4)), (("mul", "a"), ("mul", 5, 0, 4)),
                        (("load", "a"), ("load", 5, 0, 0)), (("store", "a"), ("store", 4, 0, 0)),
                        (("store", "b"), ("store", 0, 3, 0)), (("out", "a"), ("out", 0))):
                    program = (one,) + idle * (d - 1) + (other,)
                    self.assert_shown(self.OPEN, ("value", kind) + use + (d,), program, NEXT)
                program = (one,) + idle * (d - 1) + (("zero", 0, d + 2), ("set", 6, 9))
                self.assert_shown(self.OPEN, ("value", kind, "zero", "a", d), program, ("row", (d + 2,)))

    def test_d_of_7(self):
        design = with_part(self.OPEN, 1, False)
        self.assert_shown(design, ("value", "set", "out", "a", 7), (("set", 0, 3),) + (("idle",),) * 6 + (("out", 0),), NEXT)
        self.assert_shown(design, ("value", "mul", "zero", "a", 7), (("mul", 0, 1, 1),) + (("idle",),) * 6 + (
            ("zero", 0, 9), ("set", 6, 9)), ("row", (9,)))

    def test_order(self):
        # In each, one kind is written late and the others early.
        for earlier, one in (("set", ("set", 0, 1)), ("sum", ("add", 0, 3, 3)), ("mul", ("mul", 0, 3, 3)),
                             ("load", ("load", 0, 2, 5))):
            for later, other in (("set", ("set", 0, 3)), ("sum", ("add", 0, 1, 1)), ("mul", ("mul", 0, 1, 1)),
                                 ("load", ("load", 0, 2, 1))):
                rows = {kind: (0, 0, 7 if kind == earlier else 1) for kind in ("sum", "mul", "load")}
                set_row = (0, 7 if earlier == "set" else 1)
                design = (0, True, (set_row, rows["sum"], rows["mul"], rows["load"]) + EARLIEST[2][4:], (), ())
                for d in (1, 5, 6):
                    if earlier != later and d < 6:
                        program = (one,) + (("idle",),) * (d - 1) + (other,)
                        self.assert_shown(design, ("order", earlier, later, d), program, NEXT)
                    else:
                        self.assertRaises(NotMade, shown, design, ("order", earlier, later, d))

    def test_memory(self):
        store, load, idle = ("store", 3, 2, 0), ("load", 5, 2, 0), (("idle",),)
        for d in (1, 3, 5):
            design = with_part(self.OPEN, 2, with_part(with_part(self.OPEN[2], LOAD, (0, 0, 7)), STORE, (0, 0, 7)))
            self.assert_shown(design, ("memory", "store", "load", d), (store,) + idle * (d - 1) + (load,), NEXT)
            design = with_part(self.OPEN, 2, with_part(with_part(self.OPEN[2], LOAD, (0, 6, 7)), STORE, (0, 0, 1)))
            self.assert_shown(design, ("memory", "load", "store", d), (load,) + idle * (d - 1) + (store,), NEXT)

    def test_wrong(self):
        for jump, d in (("zero", 1), ("zero", 6), ("go", 1), ("go", 6)):
            one = ("zero", 2, d + 1) if jump == "zero" else ("go", d + 1)
            for later, other in (("set", ("set", 0, 3)), ("sum", ("add", 0, 1, 1)), ("mul", ("mul", 0, 1, 1)),
                                 ("load", ("load", 0, 2, 1)), ("store", ("store", 3, 2, 0)), ("out", ("out", 1))):
                design = (0, True, EARLIEST[2][:ZERO] + ((0, 7), (7,), (0, 0)), (), ())
                program = (one,) + (("idle",),) * (d - 1) + (other,)
                self.assert_shown(design, ("wrong", jump, later, d), program, ("row", (1,)))

    def test_every_missing_entry_of_drawn_designs(self):
        source, found = random.Random(23), set()
        for _ in range(60):
            design = random_design(source)
            entries = missing(design)
            for entry in entries:
                triple = shown(design, entry)
                self.assertEqual(triple, reference_shown(entry))
                self.assertIs(shows(design, *triple), True, (design, entry))
                found.add(entry[:-1])
            for entry in source.sample(ENTRIES, 20):
                if entry not in entries:
                    self.assertRaises(NotMade, shown, design, entry)
        self.assertEqual(found, {entry[:-1] for entry in ENTRIES if entry[0] != "order" or entry[1] != entry[2]})

    def test_not_made(self):
        for design, entry in (
                (RIGHT, LEAST[0]), (DESIGN, VALUE[:-1] + (2,)), (DESIGN, ("order", "set", "set", 1)),
                (with_waits(DESIGN, LEAST[3:]), LEAST[3]), (DESIGN, ("memory", "load", "store", 1)),
                (with_waits(DESIGN, (("memory", "load", "store", 1),)), ("value", "load", "store", "a", 1))):
            self.assertRaises(NotMade, shown, design, entry)

    def test_first_shown(self):
        self.assertIsNone(first_shown(RIGHT))
        self.assertEqual(first_shown(DESIGN), ((("load", 0, 2, 1), ("load", 5, 0, 0)), STATE, NEXT))
        for at in range(len(LEAST)):
            self.assertEqual(first_shown(with_waits(DESIGN, LEAST[:at])), shown(DESIGN, LEAST[at]))

    def test_first_shown_shows_each_wrong_design(self):
        source, wrong = random.Random(24), 0
        for _ in range(300):
            design = random_design(source)
            if source.random() < 0.5:
                # Of a right design, one wait or more are left out.
                waits = list(made_right(design)[4])
                design = with_waits(design, tuple(sorted(source.sample(waits, source.randint(0, len(waits))))))
            triple = first_shown(design)
            if is_right(design):
                self.assertIsNone(triple)
            else:
                wrong += 1
                self.assertEqual(triple, shown(design, missing(design)[0]))
                self.assertIs(shows(design, *triple), True, design)
        self.assertGreater(wrong, 100)


class LeastWaitsTest(unittest.TestCase):
    def test_ordinary(self):
        self.assertEqual(least_waits(DESIGN), LEAST)
        self.assertEqual(least_waits(with_waits(DESIGN, tuple(ENTRIES))), LEAST)
        self.assertEqual(least_waits(with_part(EARLIEST, 1, True)), ())
        self.assertEqual(least_waits(with_waits(PATHLESS, ())), PATHLESS[4])

    def test_without_those_that_memory_holds(self):
        # The fetch is at place 5 and the put at place 3, so a store may not come 1 or 2 beats behind a load.
        design = design_with((LOAD, (2, 5, 6)))
        self.assertEqual(open_beats(design, "memory", "load", "store"), [1, 2])
        for role in ("a", "b"):
            self.assertEqual(open_beats(design, "value", "load", "store", role), [1, 2, 3, 4])
            told = [entry[-1] for entry in least_waits(design) if entry[:4] == ("value", "load", "store", role)]
            self.assertEqual(told, [3, 4])
        self.assertEqual([entry[-1] for entry in least_waits(design) if entry[:2] == ("memory", "load")], [1, 2])

    def test_they_are_the_least(self):
        source = random.Random(25)
        for _ in range(20):
            design = random_design(source)
            waits = least_waits(design)
            self.assertEqual(list(waits), sorted(set(waits)))
            self.assertTrue(is_right(with_waits(design, waits)))
            for at in source.sample(range(len(waits)), min(len(waits), 10)):
                self.assertFalse(is_right(with_waits(design, waits[:at] + waits[at + 1:])))


class PathsTest(unittest.TestCase):
    def test_spared_by(self):
        self.assertEqual(spared_by(DESIGN, (5, 2)), ())
        self.assertEqual(spared_by(DESIGN, (3, 2)), ())
        design = with_paths(DESIGN, ((4, 2),))
        told = tuple(("value", kind) + use + (1,) for kind in ("mul", "set", "sum") for use in (
            ("load", "a"), ("mul", "a"), ("out", "a"), ("store", "a"), ("store", "b"), ("sum", "a"), ("zero", "a")))
        self.assertEqual(spared_by(design, (3, 2)), told)
        self.assertEqual(spared_by(with_waits(design, tuple(ENTRIES)), (3, 2)), told)
        self.assertEqual(spared_by(design, (7, 0)), ())
        self.assertEqual(spared_by(with_paths(DESIGN, ((3, 2),)), (4, 2)), tuple(
            ("value", kind) + entry[2:4] + (2,) for kind in ("load", "mul", "set", "sum") for entry in LEAST))

    def test_spared_by_as_the_second_table(self):
        source = random.Random(26)
        for _ in range(100):
            design, path = random_design(source), source.choice(PATHS)
            more = with_paths(design, tuple(sorted(set(design[3]) | {path})))
            told = tuple(entry for entry in reference_open(design) if not reference_is_open(more, entry))
            self.assertEqual(spared_by(design, path), told)

    def test_every_path(self):
        for path in PATHS:
            self.assertIs(type(spared_by(DESIGN, path)), tuple)
        for value in NO_SINGLE_PATHS:
            self.assertRaises(BadPath, spared_by, DESIGN, value)

    def test_paths_for(self):
        design = with_paths(DESIGN, ())
        for entries, told in (
                ((), ()), ((("value", "sum", "sum", "a", 1),), ((3, 2),)), ((("value", "load", "out", "a", 2),), ((4, 2),)),
                # Those that are not open need no path, whatever they are.
                ((("value", "sum", "sum", "a", 3),), ()), ((("value", "load", "out", "a", 7),), ()),
                ((("value", "set", "out", "a", 1), ("value", "set", "out", "a", 2), ("value", "set", "out", "a", 3),
                  ("value", "sum", "out", "a", 1)), ((3, 2), (4, 2)))):
            self.assertEqual(paths_for(design, entries), told)
        self.assertEqual(paths_for(DESIGN, (("value", "set", "out", "a", 1),)), ())

    def test_ascending_and_unlike(self):
        design = design_with((STORE, (1, 4, 5)), (OUT, (3, 3)))
        entries = tuple(entry for entry in open_entries(design) if entry[1] == "set")
        self.assertEqual(paths_for(design, entries), ((2, 1), (3, 1), (3, 2), (4, 2), (4, 3), (5, 3), (5, 4), (6, 4)))

    def test_no_path_spares_it(self):
        late = design_with((SET, (0, 7)), (OUT, (6, 6)), (SUM, (2, 5, 7)))
        for design, entry in (
                (DESIGN, VALUE), (design_with(), VALUE), (late, ("value", "set", "out", "a", 2)),
                (late, ("value", "sum", "sum", "a", 3)), (late, ("value", "sum", "sum", "a", 1))):
            self.assertTrue(is_open(design, entry))
            self.assertRaises(NotMade, paths_for, design, (entry,))
        self.assertEqual(paths_for(late, (("value", "set", "out", "a", 1),)), ((7, 6),))
        self.assertEqual(paths_for(late, (("value", "sum", "sum", "a", 4),)), ((6, 2),))
        # One for which none does is enough.
        self.assertRaises(NotMade, paths_for, late, (("value", "set", "out", "a", 1), ("value", "set", "out", "a", 2)))

    def test_they_spare_them(self):
        source, made = random.Random(27), []
        for _ in range(120):
            design = random_design(source)
            entries = tuple(entry for entry in ENTRIES if entry[0] == "value" and source.random() < 0.03)
            try:
                paths = paths_for(design, entries)
            except NotMade:
                made.append(False)
                paths = tuple(PATHS)
            else:
                made.append(True)
                self.assertEqual(list(paths), sorted(set(paths)))
            more = with_paths(design, tuple(sorted(set(design[3] + paths))))
            self.assertEqual(all(not is_open(more, entry) for entry in entries), made[-1])
        self.assertEqual(set(made), {True, False})

    def test_no_entries(self):
        for at, value in enumerate(NO_VALUE_ENTRIES):
            with self.subTest(at):
                self.assertRaises(BadEntries, paths_for, DESIGN, value)


class WrongArgumentsTest(unittest.TestCase):
    def test_no_designs(self):
        for at, value in enumerate(NO_DESIGNS):
            with self.subTest(at):
                for function in (open_entries, missing, is_right, first_shown, least_waits):
                    self.assertRaises(BadDesign, function, value)
                for function in (is_open, shown, spared_by, paths_for):
                    self.assertRaises(BadDesign, function, value, None)
                self.assertRaises(BadDesign, is_open, value, VALUE)
                self.assertRaises(BadDesign, shown, value, VALUE)
                self.assertRaises(BadDesign, spared_by, value, (2, 1))
                self.assertRaises(BadDesign, paths_for, value, ())

    def test_no_entries(self):
        for at, value in enumerate(NO_ENTRIES):
            with self.subTest(at):
                for design in (DESIGN, RIGHT):
                    self.assertRaises(BadEntry, is_open, design, value)
                    self.assertRaises(BadEntry, shown, design, value)
