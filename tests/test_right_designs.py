"""What point 18 says in parentheses: right designs, and no others, do what the plain machine does; and what point 23
says in parentheses: for right designs the beats of a trace are those of the run."""

import random
import unittest

from stagebelt.beats import beats_of, laid_beats, trace_of
from stagebelt.belts import broken, delayed, laid_on, run
from stagebelt.designs import with_paths, with_waits
from stagebelt.errors import TooLong
from stagebelt.plain import ended, ran
from stagebelt.rights import first_shown, is_right, least_waits, shows
from stagebelt.speeds import filled
from tests.reference import random_state
from tests.reference_belt import ENTRIES, random_design, random_guesser, random_short_program
from tests.samples import EARLIEST, LATEST, RIGHT, with_part


def random_right_design(source):
    """A right design, with its least waits or with more."""
    design = random_design(source)
    if source.random() < 0.2:
        design = source.choice((RIGHT, with_part(EARLIEST, 1, source.choice((True, False))), LATEST))
        design = with_paths(design, source.choice(((), ((3, 2), (4, 2)), ((1, 0), (2, 0)))))
    waits = set(least_waits(design)) | {entry for entry in design[4] if source.random() < 0.5}
    design = with_waits(design, tuple(sorted(waits)))
    return filled(design) if source.random() < 0.3 else design


def random_right_run(source):
    return random_right_design(source), random_short_program(source), random_state(source), random_guesser(source)


class RightDesignsTest(unittest.TestCase):
    def test_every_run_as_the_plain_machine(self):
        source, many = random.Random(30), 0
        for _ in range(250):
            design, program, state, guesser = arguments = random_right_run(source)
            self.assertTrue(is_right(design))
            self.assertIs(shows(*arguments), False)
            try:
                told = run(*arguments)[:2]
            except TooLong:
                continue
            many += 1
            self.assertEqual(told, ended(program, state), arguments)
            delays = tuple(source.randrange(10) for _ in range(source.randint(1, 20)))
            self.assertEqual(delayed(*arguments, delays)[:2], told, arguments)
        self.assertGreater(many, 200)

    def test_every_break_as_the_plain_machine(self):
        source = random.Random(31)
        for _ in range(200):
            design, program, state, guesser = arguments = random_right_run(source)
            for beat in (0, source.randrange(12), source.randrange(60), source.randrange(1000), 999):
                told = broken(*arguments, beat)
                self.assertEqual(ran(program, state, told[2]), told, arguments)

    def test_all_breaks_of_some_runs(self):
        source = random.Random(32)
        for _ in range(20):
            design, program, state, guesser = arguments = random_right_run(source)
            for beat in range(40):
                told = broken(*arguments, beat)
                self.assertEqual(ran(program, state, told[2]), told, arguments)

    def test_each_wait_of_the_least_is_needed(self):
        source, many = random.Random(33), 0
        for _ in range(80):
            design = random_design(source)
            waits = least_waits(design)
            for entry in source.sample(waits, min(3, len(waits))):
                wrong = with_waits(design, tuple(other for other in waits if other != entry))
                self.assertFalse(is_right(wrong))
                program, state, guesser = first_shown(wrong)
                self.assertNotEqual(run(wrong, program, state, guesser)[:2], ended(program, state))
                many += 1
        self.assertGreater(many, 100)

    def test_all_waits_make_each_design_right(self):
        source = random.Random(34)
        for _ in range(30):
            design = with_waits(random_design(source), tuple(ENTRIES))
            self.assertTrue(is_right(design))


class BeatsOfRunsTest(unittest.TestCase):
    def test_beats_of_the_trace_are_those_of_the_run(self):
        source, jumps = random.Random(35), []
        for _ in range(400):
            arguments = random_right_run(source)
            try:
                beats = run(*arguments)[2]
                trace = trace_of(*arguments)
            except TooLong:
                continue
            self.assertEqual(beats_of(arguments[0], trace), beats, arguments)
            kept = [beat for beat, _, thrown_away in laid_on(*arguments) if not thrown_away]
            self.assertEqual(list(laid_beats(arguments[0], trace)), kept, arguments)
            jumps.extend(right for step, right in trace if step[0] in ("zero", "go"))
        self.assertGreater(jumps.count(True), 50)
        self.assertGreater(jumps.count(False), 50)
