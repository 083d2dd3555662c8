"""Points 22 and 23: traces, the beats at which they are laid on, how many they take, and where they wait."""

import random
import unittest

from stagebelt.beats import beats_of, laid_beats, trace_of, waited
from stagebelt.belts import laid_on, run
from stagebelt.designs import with_waits
from stagebelt.errors import BadDesign, BadGuesser, BadProgram, BadState, BadTrace, TooLong
from tests.reference_beats import random_trace, reference_beats_of, reference_laid_beats, rightly
from tests.reference_belt import random_design
from tests.samples import (
    DESIGN, EARLIEST, LATEST, NO_DESIGNS, NO_GUESSERS, NO_PROGRAMS, NO_STATES, NO_STEPS, NO_TRACES, ONE_OF_EACH, PATHLESS,
    RIGHT, START, with_part)

IDLE = ("idle",)
NEXT = ("next",)
GO = 6


def program_of_done(idle, rounds=66):
    """(program, state): plainly, 3 instructions a round but one fewer in the last, and some that are idle."""
    program = (("sub", 4, 4, 6), ("zero", 4, 3), ("go", 0)) + (IDLE,) * idle
    return program, (with_part(with_part(START[0], 4, rounds), 6, 1),) + START[1:]


class TraceOfTest(unittest.TestCase):
    def test_ordinary(self):
        program = (("load", 1, 0, 0), ("add", 2, 1, 1))
        for design in (DESIGN, RIGHT, EARLIEST, LATEST):
            self.assertEqual(trace_of(design, program, START, NEXT), rightly(program))
            self.assertEqual(trace_of(design, (), START, NEXT), ())

    def test_one_of_each(self):
        program = tuple(("zero", 1, 0) if step[0] == "zero" else step for step in ONE_OF_EACH if step[0] != "go")
        state = (with_part(START[0], 1, 0), START[1], START[2])
        self.assertEqual(trace_of(RIGHT, program, state, NEXT), rightly(program))

    def test_jumps(self):
        # Register 0 holds 0 and register 1 does not.
        program = (("zero", 0, 2), ("out", 1), ("zero", 1, 0), ("go", 5), ("out", 2), ("out", 3))
        done = (program[0], program[2], program[3], program[5])
        for guesser, told in (
                (NEXT, (False, True, False, True)), (("goal",), (True, False, True, True)),
                (("row", (2, 3, 5)), (True, True, True, True)), (("row", (6, 6, 6)), (False, False, False, True)),
                (("table", 8, 1), (False, True, False, True))):
            for design in (RIGHT, PATHLESS):
                self.assertEqual(trace_of(design, program, START, guesser), tuple(zip(done, told)))

    def test_a_guess_of_the_next_one_may_be_the_goal(self):
        for program, guesser in (((("go", 1),), NEXT), ((("go", 1),), ("goal",)), ((("zero", 0, 1),), NEXT),
                                 ((("zero", 1, 1),), ("goal",)), ((("go", 1),), ("row", (3,)))):
            self.assertEqual(trace_of(RIGHT, program, START, guesser), rightly(program))

    def test_without_what_was_thrown_away(self):
        # Behind the wrong guess another jump is laid on, which is decided ahead of the first one.
        program = (("zero", 0, 3), ("go", 0), ("go", 0), ("out", 1))
        design = with_part(RIGHT, 2, with_part(RIGHT[2], 5, (2, 4)))
        self.assertGreater(len(laid_on(design, program, START, NEXT)), 2)
        self.assertEqual(trace_of(design, program, START, NEXT), ((program[0], False), (program[3], True)))

    def test_again_and_again(self):
        program, state = program_of_done(0, 3)
        for guesser, told in ((NEXT, (True, True, False)), (("goal",), (True, False, True))):
            trace = trace_of(RIGHT, program, state, guesser)
            self.assertEqual(trace[:3], tuple(zip(program, told)))
            self.assertEqual(trace[3:6], trace[:3])
            self.assertEqual(len(trace), 8)
        self.assertEqual([right for _, right in trace_of(RIGHT, program, state, ("table", 8, 1))],
                         [True, True, False, True, True, True, True, False])

    def test_up_to_200(self):
        for idle, many in ((2, 199), (3, 200)):
            self.assertEqual(len(trace_of(RIGHT, *program_of_done(idle), ("goal",))), many)
        for idle in (4, 5, 50):
            with self.assertRaises(TooLong) as caught:
                trace_of(RIGHT, *program_of_done(idle), ("goal",))
            self.assertEqual(caught.exception.most, 200)

    def test_only_what_is_kept_counts(self):
        # All in all more than 200 are laid on, but they are not all kept.
        program, state = program_of_done(3)
        self.assertGreater(len(laid_on(RIGHT, program, state, NEXT)), 200)
        self.assertEqual(len(trace_of(RIGHT, program, state, NEXT)), 200)

    def test_1000_beats_are_looked_for_first(self):
        for program, guesser in (((("go", 0),), ("goal",)), ((IDLE, ("go", 0)), NEXT)):
            with self.assertRaises(TooLong) as caught:
                trace_of(RIGHT, program, START, guesser)
            self.assertEqual(caught.exception.most, 1000)
        for rounds, most in ((330, 200), (400, 1000)):
            program, state = program_of_done(0, rounds)
            with self.assertRaises(TooLong) as caught:
                trace_of(RIGHT, program, state, ("row", (2, 0)))
            self.assertEqual(caught.exception.most, most)

    def test_wrong_arguments(self):
        program = (("go", 0),)
        for value in NO_DESIGNS:
            self.assertRaises(BadDesign, trace_of, value, program, START, NEXT)
            self.assertRaises(BadDesign, trace_of, value, None, None, None)
        for value in NO_PROGRAMS:
            self.assertRaises(BadProgram, trace_of, DESIGN, value, None, None)
        for value in NO_STATES:
            self.assertRaises(BadState, trace_of, DESIGN, program, value, None)
        for value in NO_GUESSERS:
            self.assertRaises(BadGuesser, trace_of, DESIGN, program, START, value)


class LaidBeatsTest(unittest.TestCase):
    def assert_laid(self, design, trace, told):
        self.assertEqual(laid_beats(design, trace), told)
        self.assertEqual(waited(design, trace), tuple(
            beat - ahead - 1 for ahead, beat in zip((-1,) + told, told)))

    def test_no_instruction(self):
        for design in (DESIGN, RIGHT, LATEST):
            self.assertEqual((laid_beats(design, ()), waited(design, ()), beats_of(design, ())), ((), (), 0))

    def test_without_waits(self):
        trace = rightly(ONE_OF_EACH)
        for design in (DESIGN, EARLIEST, LATEST):
            self.assertEqual(laid_beats(design, trace), tuple(range(12)))
            self.assertEqual(waited(design, trace), (0,) * 12)

    def test_value(self):
        load, add = ("load", 1, 0, 0), ("add", 2, 1, 1)
        self.assert_laid(RIGHT, rightly((load, add)), (0, 2))
        self.assert_laid(RIGHT, rightly((load, IDLE, add)), (0, 1, 2))
        # Another one writes the register meanwhile, so the add does not use the word of the load.
        self.assert_laid(RIGHT, rightly((load, ("set", 1, 3), add)), (0, 1, 2))
        self.assert_laid(PATHLESS, rightly((load, ("set", 1, 3), add)), (0, 1, 4))
        self.assert_laid(RIGHT, rightly((("set", 1, 3), load, add)), (0, 1, 3))
        self.assert_laid(RIGHT, rightly((load, ("add", 2, 3, 4))), (0, 1))
        self.assert_laid(RIGHT, rightly((load, ("add", 2, 3, 1))), (0, 2))
        for later in (("store", 1, 2, 0), ("store", 2, 1, 0), ("out", 1), ("zero", 1, 0), ("mul", 1, 2, 1), ("load", 1, 1, 0)):
            self.assert_laid(RIGHT, rightly((load, later)), (0, 2))

    def test_roles(self):
        design = with_waits(DESIGN, (("value", "set", "store", "b", 1),))
        self.assert_laid(design, rightly((("set", 1, 3), ("store", 1, 2, 0))), (0, 2))
        self.assert_laid(design, rightly((("set", 1, 3), ("store", 2, 1, 0))), (0, 1))

    def test_order(self):
        design = with_waits(DESIGN, (("order", "load", "set", 1), ("order", "load", "set", 2), ("order", "set", "set", 1)))
        self.assert_laid(design, rightly((("load", 1, 0, 0), ("set", 1, 3))), (0, 3))
        self.assert_laid(design, rightly((("load", 1, 0, 0), ("set", 2, 3))), (0, 1))
        # Not only the last one that writes the register counts.
        self.assert_laid(design, rightly((("load", 1, 0, 0), ("add", 1, 2, 2), ("set", 1, 3))), (0, 1, 3))
        self.assert_laid(design, rightly((("set", 1, 3),) * 4), (0, 2, 4, 6))

    def test_memory(self):
        design = with_waits(DESIGN, (("memory", "load", "store", 1), ("memory", "store", "load", 2)))
        store, load = ("store", 1, 2, 3), ("load", 4, 5, 6)
        # Of unlike cells, too.
        self.assert_laid(design, rightly((load, store)), (0, 2))
        self.assert_laid(design, rightly((store, load)), (0, 1))
        self.assert_laid(design, rightly((store, IDLE, load)), (0, 1, 3))
        self.assert_laid(design, rightly((store, store, load)), (0, 1, 4))

    def test_wrong(self):
        design = with_waits(DESIGN, (("wrong", "go", "out", 1), ("wrong", "go", "out", 2), ("wrong", "zero", "set", 7)))
        self.assert_laid(design, rightly((("go", 3), ("out", 1))), (0, 3))
        self.assert_laid(design, rightly((("go", 3), ("set", 1, 2), ("out", 1))), (0, 1, 3))
        self.assert_laid(design, rightly((("zero", 3, 3), ("out", 1))), (0, 1))
        self.assert_laid(design, rightly((("zero", 3, 3),) + (IDLE,) * 6 + (("set", 1, 2),)), (0, 1, 2, 3, 4, 5, 6, 8))

    def test_holes_and_d_of_7(self):
        first, last = ("load", 1, 0, 0), ("out", 1)
        design = with_waits(DESIGN, tuple(("value", "load", "out", "a", d) for d in (2, 3, 7)))
        for idle, told in ((0, 1), (1, 4), (2, 4), (3, 4), (4, 5), (5, 6), (6, 8), (7, 8), (8, 9)):
            trace = rightly((first,) + (IDLE,) * idle + (last,))
            self.assertEqual(laid_beats(design, trace)[-1], told)
            self.assertEqual(waited(design, trace), (0,) * (idle + 1) + (told - idle - 1,))
        design = with_waits(DESIGN, tuple(("value", "load", "out", "a", d) for d in range(1, 8)))
        self.assert_laid(design, rightly((first, last)), (0, 8))
        self.assert_laid(design, rightly((first, last, last)), (0, 8, 9))

    def test_behind_a_wrong_guess(self):
        # The go is decided at place 1, the zero at place 2.
        self.assert_laid(DESIGN, ((("go", 5), False), (IDLE, True), (IDLE, True)), (0, 2, 3))
        self.assert_laid(DESIGN, ((("zero", 1, 5), False), (IDLE, True), (IDLE, True)), (0, 3, 4))
        self.assert_laid(DESIGN, ((("zero", 1, 5), False), (("zero", 1, 5), False), (("go", 1), False), (IDLE, True)),
                         (0, 3, 6, 8))
        for place, told in ((0, 1), (1, 2), (7, 8)):
            design = with_part(DESIGN, 2, with_part(DESIGN[2], GO, (place,)))
            self.assert_laid(design, ((("go", 5), False), (IDLE, True)), (0, told))
            self.assertEqual(beats_of(design, ((("go", 5), False),)), place + 1)

    def test_waits_behind_a_wrong_guess(self):
        design = with_waits(DESIGN, (("value", "set", "zero", "a", 1), ("wrong", "go", "out", 2), ("wrong", "go", "out", 3)))
        self.assert_laid(design, ((("go", 5), False), (("out", 1), True)), (0, 4))
        self.assert_laid(design, ((("go", 5), True), (("out", 1), True)), (0, 1))
        self.assert_laid(design, ((("set", 1, 2), True), (("zero", 1, 5), False), (("out", 1), True)), (0, 2, 5))

    def test_as_the_second_way(self):
        source = random.Random(40)
        for _ in range(300):
            design, trace = random_design(source), random_trace(source, source.choice((12, 12, 40)))
            told = reference_laid_beats(design, trace)
            self.assert_laid(design, trace, told)
            self.assertEqual(beats_of(design, trace), reference_beats_of(design, trace))

    def test_kinds_of_values(self):
        trace = rightly(ONE_OF_EACH)
        for function in (laid_beats, waited):
            self.assertIs(type(function(DESIGN, trace)), tuple)
            self.assertEqual({type(item) for item in function(DESIGN, trace)}, {int})
        self.assertIs(type(beats_of(DESIGN, trace)), int)


class BeatsOfTest(unittest.TestCase):
    def test_last_places(self):
        one_each = (("set", 1, 3), ("add", 1, 1, 1), ("mul", 1, 1, 1), ("load", 1, 1, 1), ("store", 1, 1, 1),
                    ("zero", 1, 1), ("go", 1), ("out", 1), IDLE)
        for design, told in (
                (DESIGN, [5, 5, 5, 5, 4, 3, 2, 3, 1]), (EARLIEST, [2, 2, 2, 2, 2, 1, 1, 1, 1]),
                (LATEST, [8, 8, 8, 8, 8, 8, 8, 8, 1])):
            self.assertEqual([beats_of(design, ((one, True),)) for one in one_each], told)

    def test_the_greatest_one_of_all(self):
        for idle, told in ((0, 5), (3, 5), (4, 5), (5, 6), (199, 200)):
            self.assertEqual(beats_of(DESIGN, rightly((("set", 1, 3),) + (IDLE,) * idle)), told)
        self.assertEqual(beats_of(RIGHT, rightly((("load", 1, 0, 0), ("add", 2, 1, 1)))), 7)

    def test_200_instructions(self):
        self.assertEqual(beats_of(RIGHT, rightly((("load", 1, 1, 0),) * 200)), 403)
        self.assertEqual(laid_beats(RIGHT, rightly((("load", 1, 1, 0),) * 200)), tuple(range(0, 400, 2)))

    def test_as_the_run(self):
        program, state = (("load", 1, 0, 0), ("zero", 1, 3), ("out", 1), ("store", 1, 1, 1), ("go", 6), IDLE), START
        for guesser in (NEXT, ("goal",)):
            for design in (RIGHT, PATHLESS):
                trace = trace_of(design, program, state, guesser)
                self.assertEqual(beats_of(design, trace), run(design, program, state, guesser)[2])


class WrongTracesTest(unittest.TestCase):
    FUNCTIONS = (laid_beats, beats_of, waited)

    def assert_index(self, value, index):
        for function in self.FUNCTIONS:
            with self.assertRaises(BadTrace) as caught:
                function(DESIGN, value)
            self.assertEqual(caught.exception.index, index)

    def test_no_tuples_of_at_most_200(self):
        for value in NO_TRACES:
            self.assert_index(value, None)

    def test_first_wrong_item(self):
        right = ((IDLE, True), (("go", 60), False), (("zero", 7, 60), True))
        for value in NO_STEPS:
            self.assert_index((value,), 0)
            self.assert_index(right + (value,), 3)
            self.assert_index(right[:1] + (value, None, value), 1)
        self.assert_index(right * 66 + (right[0], None), 199)

    def test_right_only_for_jumps(self):
        for step in ONE_OF_EACH:
            self.assertEqual(len(laid_beats(DESIGN, ((step, True),))), 1)
            if step[0] in ("zero", "go"):
                self.assertEqual(len(laid_beats(DESIGN, ((step, False),))), 1)
            else:
                self.assert_index(((step, False),), 0)

    def test_designs_first(self):
        for value in NO_DESIGNS:
            for function in self.FUNCTIONS:
                self.assertRaises(BadDesign, function, value, ())
                self.assertRaises(BadDesign, function, value, None)
