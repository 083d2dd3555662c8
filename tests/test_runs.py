"""Points 15 and 16: run, broken, delayed, laid_on and on_belt, also compared with a second belt and, by the
document's table of entries, with the plain machine."""

import copy
import random
import unittest

from stagebelt.belts import broken, delayed, laid_on, on_belt, run
from stagebelt.errors import (
    BadDelays, BadDesign, BadGuesser, BadNumber, BadProgram, BadState, TooLong)
from stagebelt.plain import ended, ran
from tests.reference_belt import ENTRIES, random_design, random_run, reference_belt
from tests.reference_table import made_right, reference_missing, reference_shown
from tests.samples import (
    DESIGN, EARLIEST, LATEST, NO_DESIGNS, NO_GUESSERS, NO_INSTRUCTIONS, NO_INTEGERS, NO_PROGRAMS, NO_STATES,
    NO_TUPLES, START, with_part)

IDLE = ("idle",)
NEXT = ("next",)
PROGRAM = (("load", 1, 0, 0), ("add", 2, 1, 1))
REGISTERS, CELLS, SHOWN = START
LOOP = (("go", 0),)

NO_BEATS = NO_INTEGERS + (-1, 1000, 1001, 10 ** 5000, -10 ** 5000)

NO_DELAYS = NO_TUPLES + (
    (), (1,) * 21, (10,), (-1,), (1, 2, 10), (True,), (0, False), (None,), ("1",), ((1,),), ([],), "5", [5], (5, None),
)


def all_calls(design, program, state, guesser, beat=0, delays=(0,)):
    return (
        lambda: run(design, program, state, guesser),
        lambda: broken(design, program, state, guesser, beat),
        lambda: delayed(design, program, state, guesser, delays),
        lambda: laid_on(design, program, state, guesser),
        lambda: on_belt(design, program, state, guesser, beat),
    )


def program_of_beats(many):
    """(program, state) of a run of so many beats, at least 992, on the sample design, the next one guessed."""
    # A round takes 8 beats: the zero that stays in the loop loses none, the go one.
    loop = (("sub", 4, 4, 6), IDLE, IDLE, IDLE, IDLE, ("zero", 4, 7), ("go", 0))
    state = (with_part(with_part(REGISTERS, 4, 124), 6, 1), CELLS, ())
    return loop + (IDLE,) * (many - 992), state


class RunTest(unittest.TestCase):
    def test_of_the_document(self):
        state = ((0,) * 8, (7,) * 16, ())
        # The add is laid on one beat behind the load and is not waited for, so it reads the old word.
        self.assertEqual(run(DESIGN, PROGRAM, state, NEXT), (((0, 7, 0) + (0,) * 5, (7,) * 16, ()), 2, 6))
        waiting = with_part(DESIGN, 4, (("value", "load", "sum", "a", 1),))
        self.assertEqual(run(waiting, PROGRAM, state, NEXT), (((0, 7, 14) + (0,) * 5, (7,) * 16, ()), 2, 7))

    def test_kinds_of_values(self):
        state, done, beats = run(DESIGN, PROGRAM, START, NEXT)
        for words in state:
            self.assertIs(type(words), tuple)
            self.assertEqual({type(item) for item in words} - {int}, set())
        self.assertEqual([type(item) for item in (state, done, beats)], [tuple, int, int])
        self.assertIs(type(laid_on(DESIGN, PROGRAM, START, NEXT)[0][2]), bool)


class TooLongTest(unittest.TestCase):
    def assert_too_long(self, *arguments):
        for call in (lambda: run(*arguments), lambda: laid_on(*arguments), lambda: delayed(*arguments, (0,))):
            with self.assertRaises(TooLong) as caught:
                call()
            self.assertEqual(caught.exception.most, 1000)

    def test_just_ahead_of_beat_1000(self):
        for many in (992, 998, 999, 1000):
            program, state = program_of_beats(many)
            final = (with_part(state[0], 4, 0), CELLS, ())
            self.assertEqual(run(DESIGN, program, state, NEXT), (final, 867 + many - 992, many))
            self.assertEqual(delayed(DESIGN, program, state, NEXT, (9,)), (final, 867 + many - 992, many))
            # The last zero throws away the go that is laid on behind it in each round, the go an idle one.
            self.assertEqual(laid_on(DESIGN, program, state, NEXT)[-1][0], many - 1 if many > 992 else 990)

    def test_not_ahead_of_beat_1000(self):
        for many in (1001, 1002, 1040):
            self.assert_too_long(DESIGN, *program_of_beats(many)[:1], program_of_beats(many)[1], NEXT)

    def test_last_place_just_ahead_of_beat_1000(self):
        # The set is laid on in beat 995 and written in beat 999.
        program, state = program_of_beats(995)
        self.assertEqual(run(DESIGN, program + (("set", 0, 9),), state, NEXT)[2], 1000)
        self.assertEqual(run(DESIGN, program + (("set", 0, 9),), state, NEXT)[0][0][0], 9)
        self.assert_too_long(DESIGN, program + (IDLE, ("set", 0, 9)), state, NEXT)

    def test_no_end(self):
        for program, guesser in (
                (LOOP, ("goal",)), (LOOP, NEXT), ((IDLE, ("zero", 0, 0)), ("row", (0, 1))),
                ((("out", 1), ("go", 0)), ("table", 2, 2)), ((("load", 0, 0, 0), ("go", 0)), ("goal",))):
            for design in (DESIGN, EARLIEST, LATEST):
                self.assert_too_long(design, program, START, guesser)

    def test_by_the_beats_without_delays(self):
        program = (("load", 0, 0, 0),) * 20
        self.assertEqual(delayed(DESIGN, program, START, NEXT, (9,))[1:], (20, 24 + 180))
        program, state = program_of_beats(995)
        program += (("store", 0, 0, 0),) * 2
        self.assertEqual(delayed(DESIGN, program, state, NEXT, (9,))[2], 1000 + 18)


class BrokenTest(unittest.TestCase):
    def test_each_beat(self):
        program = (("set", 1, 9), ("out", 3), ("add", 2, 3, 3))
        first = with_part(REGISTERS, 1, 9)
        last = with_part(first, 2, 10)
        for beat, told in (
                (0, (START, 0, 0)), (1, ((first, CELLS, ()), 1, 1)), (2, ((first, CELLS, (5,)), 2, 2)),
                (3, ((last, CELLS, (5,)), 3, 3)), (6, ((last, CELLS, (5,)), 3, 3)),
                (7, ((last, CELLS, (5,)), 3, 3)), (999, ((last, CELLS, (5,)), 3, 3))):
            self.assertEqual(broken(DESIGN, program, START, NEXT, beat), told)

    def test_next_is_what_is_right_in_the_end(self):
        program = (("zero", 0, 3), ("out", 1), ("out", 3), ("out", 4))
        self.assertEqual(broken(DESIGN, program, START, NEXT, 1), (START, 3, 1))
        self.assertEqual(broken(DESIGN, program, START, NEXT, 2), (START, 3, 1))
        self.assertEqual(broken(DESIGN, program, START, NEXT, 3), (START, 3, 1))
        self.assertEqual(broken(DESIGN, program, START, NEXT, 4), ((REGISTERS, CELLS, (6,)), 4, 2))
        self.assertEqual(broken(DESIGN, with_part(program, 0, ("zero", 1, 3)), START, ("goal",), 2), (START, 1, 1))
        self.assertEqual(broken(DESIGN, (("go", 2), IDLE), START, NEXT, 1), (START, 2, 1))
        self.assertEqual(broken(DESIGN, (("zero", 1, 0), IDLE), START, ("row", (2,)), 1), (START, 1, 1))

    def test_what_waits_is_next(self):
        design = with_part(DESIGN, 4, (("value", "load", "sum", "a", 1),))
        self.assertEqual(broken(design, PROGRAM, START, NEXT, 2)[1:], (1, 1))
        self.assertEqual(broken(design, PROGRAM, START, NEXT, 3)[1:], (2, 2))

    def test_without_an_end(self):
        program = (("add", 1, 1, 7), IDLE, IDLE, IDLE, ("go", 0))
        for beat in (0, 1, 5, 500, 997, 998, 999):
            state, following, done = broken(DESIGN, program, START, ("goal",), beat)
            self.assertEqual((state[0][1], following, done), (2 + (beat + 4) // 5, beat % 5, beat))

    def test_nothing_more_is_laid_on(self):
        # The guess of the go is wrong; the right one is not laid on any more.
        program = (("go", 2), ("out", 1), ("out", 3))
        self.assertEqual(broken(DESIGN, program, START, NEXT, 2), (START, 2, 1))
        self.assertEqual(broken(LATEST, program, START, NEXT, 8), (START, 2, 1))
        self.assertEqual(broken(LATEST, program, START, NEXT, 9), ((REGISTERS, CELLS, (5,)), 3, 2))


class DelayedTest(unittest.TestCase):
    def beats(self, program, delays, design=DESIGN, guesser=NEXT):
        told = delayed(design, program, START, guesser, delays)
        self.assertEqual(told[:2], run(design, program, START, guesser)[:2])
        return told[2] - run(design, program, START, guesser)[2]

    def test_each_fetch_and_put(self):
        load, store = ("load", 1, 0, 0), ("store", 1, 0, 0)
        for program, many in (
                ((load,), 1), ((store,), 1), ((load, store), 2), ((store, load, load), 3),
                ((load, IDLE, store, ("out", 1), load, ("set", 1, 3), store), 4)):
            self.assertEqual(self.beats(program, (1,)), many)
            self.assertEqual(self.beats(program, (0,) * many + (9,)), 0)
            self.assertEqual(self.beats(program, (0,) * (many - 1) + (9,)), 9)

    def test_row_is_taken_again(self):
        self.assertEqual(self.beats((("load", 1, 0, 0),) * 7, (1, 2, 5)), 17)
        self.assertEqual(self.beats((("store", 1, 0, 0),) * 20, tuple(range(10)) * 2), 90)
        self.assertEqual(self.beats((("store", 1, 0, 0),) * 20, (9,)), 180)
        self.assertEqual(self.beats((("store", 1, 0, 0),) * 21, (9,) + (0,) * 19), 18)
        self.assertEqual(self.beats((IDLE, ("set", 1, 2), ("out", 1)), (9,)), 0)
        self.assertEqual(self.beats((), (9,)), 0)

    def test_what_is_thrown_away(self):
        # The load behind the jump fetches in beat 4, the store puts in beat 5.
        program = (("go", 3), ("load", 1, 0, 0), ("store", 1, 0, 0))
        for decided, told in ((3, 0), (4, 1), (5, 3), (6, 3)):
            design = with_part(DESIGN, 2, with_part(DESIGN[2], 6, (decided,)))
            self.assertEqual(self.beats(program, (1, 2, 4), design), told)


class LaidOnTest(unittest.TestCase):
    def test_ordinary(self):
        self.assertEqual(laid_on(DESIGN, PROGRAM, START, NEXT), ((0, 0, False), (1, 1, False)))
        self.assertEqual(laid_on(DESIGN, (), START, NEXT), ())
        program = (("go", 2), IDLE, ("zero", 1, 0), IDLE)
        self.assertEqual(laid_on(DESIGN, program, START, NEXT), (
            (0, 0, False), (1, 1, True), (2, 2, False), (3, 3, False)))
        self.assertEqual(laid_on(DESIGN, program, START, ("goal",)), (
            (0, 0, False), (1, 2, False), (2, 0, True), (3, 2, True), (4, 3, False)))


class OnBeltTest(unittest.TestCase):
    def test_places_0_to_7(self):
        program = (IDLE,) * 9 + (("out", 1),)
        self.assertEqual(on_belt(DESIGN, program, START, NEXT, 0), ((0, 0),))
        self.assertEqual(on_belt(DESIGN, program, START, NEXT, 1), ((1, 0), (0, 1)))
        self.assertEqual(on_belt(DESIGN, program, START, NEXT, 7), tuple((7 - at, at) for at in range(8)))
        self.assertEqual(on_belt(DESIGN, program, START, NEXT, 8), tuple((8 - at, at) for at in range(1, 9)))

    def test_at_the_end(self):
        program = (IDLE, ("out", 1))
        self.assertEqual(on_belt(DESIGN, program, START, NEXT, 2), ((2, 0), (1, 1)))
        self.assertEqual(on_belt(DESIGN, program, START, NEXT, 3), ((3, 0), (2, 1)))
        self.assertEqual(on_belt(DESIGN, program, START, NEXT, 4), ())
        self.assertEqual(on_belt(DESIGN, program, START, NEXT, 999), ())
        self.assertEqual(on_belt(DESIGN, (), START, NEXT, 0), ())

    def test_thrown_away(self):
        # Thrown away in beat 2, so still there behind the laying on of this beat.
        program = (("zero", 0, 3), IDLE, IDLE, IDLE)
        told = [on_belt(DESIGN, program, START, NEXT, beat) for beat in range(5)]
        self.assertEqual(told, [((0, 0),), ((1, 0), (0, 1)), ((2, 0), (1, 1), (0, 2)), ((3, 0), (0, 3)), ()])

    def test_without_an_end(self):
        self.assertEqual(on_belt(DESIGN, LOOP, START, ("goal",), 999), tuple((7 - at, 0) for at in range(8)))
        program, state = program_of_beats(1001)
        self.assertEqual(on_belt(DESIGN, program, state, NEXT, 999)[-1], (0, 14))
        program, state = program_of_beats(999)
        self.assertEqual(on_belt(DESIGN, program, state, NEXT, 998)[-1], (0, 13))
        self.assertEqual(on_belt(DESIGN, program, state, NEXT, 999), ())


class ComparedTest(unittest.TestCase):
    def compare(self, arguments, beats, delays):
        belt = reference_belt(*arguments)
        if belt.over():
            told = (belt.state(), belt.done(), belt.beat)
            more = sum(delays[at % len(delays)] for at in range(belt.uses))
            self.assertEqual(run(*arguments), told)
            self.assertEqual(delayed(*arguments, delays), told[:2] + (belt.beat + more,))
            self.assertEqual(laid_on(*arguments), tuple(
                (one["beat"], one["number"], one["thrown"]) for one in belt.laid))
        else:
            self.assertRaises(TooLong, run, *arguments)
        for beat in beats:
            self.assertEqual(on_belt(*arguments, beat), (belt.snapshots[beat:beat + 1] or [()])[0])
            cut = reference_belt(*arguments, stop=beat)
            self.assertEqual(broken(*arguments, beat), (cut.state(), cut.next, cut.done()))

    def test_as_the_second_belt(self):
        source = random.Random(11)
        for _ in range(250):
            arguments = random_run(source)
            delays = tuple(source.randrange(10) for _ in range(source.randint(1, 20)))
            with self.subTest(arguments):
                self.compare(arguments, (source.randrange(8), source.randrange(30)), delays)

    def test_right_designs_as_the_plain_machine(self):
        source = random.Random(12)
        for _ in range(200):
            design, program, state, guesser = random_run(source)
            design = made_right(design)
            for beat in (source.randrange(10), source.randrange(100)):
                final, following, done = broken(design, program, state, guesser, beat)
                self.assertEqual(ran(program, state, done), (final, following, done))
            if reference_belt(design, program, state, guesser).over():
                self.assertEqual(run(design, program, state, guesser)[:2], ended(program, state))

    def test_missing_entries_as_the_table_tells(self):
        source = random.Random(13)
        shown = set()
        for _ in range(60):
            design = random_design(source)
            for entry in reference_missing(design):
                program, state, guesser = reference_shown(entry)
                self.assertNotEqual(run(design, program, state, guesser)[:2], ended(program, state), (design, entry))
                shown.add(entry[:-1])
        # Two of one kind are always written in the order in which they are laid on.
        self.assertEqual(shown, {entry[:-1] for entry in ENTRIES if entry[0] != "order" or entry[1] != entry[2]})


class WrongArgumentsTest(unittest.TestCase):
    def assert_all(self, error, *arguments):
        for call in all_calls(*arguments):
            self.assertRaises(error, call)

    def test_no_designs(self):
        for at, value in enumerate(NO_DESIGNS):
            with self.subTest(at):
                self.assert_all(BadDesign, value, PROGRAM, START, NEXT)
                self.assert_all(BadDesign, value, None, None, None, None, None)

    def test_no_programs(self):
        for value in NO_PROGRAMS:
            for call in all_calls(DESIGN, value, START, NEXT):
                with self.assertRaises(BadProgram) as caught:
                    call()
                self.assertIsNone(caught.exception.index)
        for value in NO_INSTRUCTIONS + (("go", 3), ("zero", 0, 3)):
            for call in all_calls(DESIGN, (IDLE, value), None, None, None, None):
                with self.assertRaises(BadProgram) as caught:
                    call()
                self.assertEqual(caught.exception.index, 1)

    def test_no_states(self):
        for value in NO_STATES:
            self.assert_all(BadState, DESIGN, PROGRAM, value, NEXT)
            self.assert_all(BadState, DESIGN, LOOP, value, None, True, ())

    def test_no_guessers(self):
        for value in NO_GUESSERS:
            self.assert_all(BadGuesser, DESIGN, PROGRAM, START, value)
            self.assert_all(BadGuesser, DESIGN, LOOP, START, value, -1, None)

    def test_no_beats(self):
        for value in NO_BEATS:
            for program in (PROGRAM, LOOP, ()):
                self.assertRaises(BadNumber, broken, DESIGN, program, START, NEXT, value)
                self.assertRaises(BadNumber, on_belt, DESIGN, program, START, NEXT, value)

    def test_no_delays(self):
        for at, value in enumerate(NO_DELAYS):
            for program in (PROGRAM, LOOP, ()):
                with self.subTest(at), self.assertRaises(BadDelays):
                    delayed(DESIGN, program, START, NEXT, value)

    def test_limits_of_delays(self):
        for delays in ((0,), (9,), (0,) * 20, tuple(range(10)) * 2):
            self.assertEqual(delayed(DESIGN, PROGRAM, START, NEXT, delays)[1:], (2, 6 + delays[0]))

    def test_too_long_behind_all(self):
        self.assert_all(BadDesign, None, LOOP, START, NEXT)
        self.assert_all(BadState, DESIGN, LOOP, (), NEXT)
        self.assert_all(BadGuesser, DESIGN, LOOP, START, ("goal", 1))
        self.assertRaises(BadDelays, delayed, DESIGN, LOOP, START, NEXT, ())

    def test_not_modified(self):
        arguments = [list(DESIGN), [["idle"]], [list(part) for part in START], ["row", [1]], [1], [2]]
        right = [DESIGN, PROGRAM, START, NEXT, 0, (1,)]
        kept = copy.deepcopy((arguments, right))
        for at in range(4):
            for call in all_calls(*right[:at], *arguments[at:]):
                self.assertRaises(ValueError, call)
        for call in all_calls(*right):
            call()
        self.assertEqual((arguments, right), kept)
