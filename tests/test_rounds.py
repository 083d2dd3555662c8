"""Point 27: bodies done again and again, their beats and pace, and rings."""

import math
import random
import unittest
from fractions import Fraction

from stagebelt.beats import beats_of
from stagebelt.designs import with_waits
from stagebelt.errors import BadBody, BadDesign, BadNumber, BadRing, NotMade
from stagebelt.speeds import filled, pace, pace_ring, ring_pace, rounds_beats
from tests.reference_beats import (
    all_rings, random_body, random_even_design, reference_beats_of, reference_pace_ring, reference_ring_pace, rightly)
from tests.reference_belt import ENTRIES
from tests.samples import (
    BODY, DESIGN, EARLIEST, LATEST, NO_BODIES, NO_DESIGNS, NO_INTEGERS, NO_RINGS, ONE_OF_EACH, PATHLESS, RIGHT, WITH_HOLES,
    with_part)

IDLE = ("idle",)
MOST = 10 ** 9
FREE = with_part(EARLIEST, 1, True)
LOAD = (("load", 1, 1, 0),)

# Each number of beats that a wait may have, so that all distances that there are are 8.
ALL = with_waits(DESIGN, tuple(ENTRIES))

# From place 0 to 2, a round later from there to 1, from there to 3, and a round later back to 0.
CROSSED = (("add", 1, 3, 3), ("mul", 2, 4, 4), ("load", 4, 1, 0), ("add", 3, 2, 2))

NO_ROUNDS = NO_INTEGERS + (-1, MOST + 1, 10 ** 5000, -10 ** 5000)


def distances_of(many):
    """A right design in which a sum waits for the words of others, each kind its own number of beats."""
    waits = [("value", kind, later, "a", d) for kind, most in many.items() for later in ("sum", "mul", "load")
             for d in range(1, most)]
    return with_waits(FREE, tuple(sorted(waits)))


class RoundsBeatsTest(unittest.TestCase):
    def assert_written_out(self, design, body, most=14):
        for rounds in range(most):
            told = beats_of(design, rightly(body * rounds))
            self.assertEqual(rounds_beats(design, body, rounds), told, (design, body, rounds))

    def test_ordinary(self):
        for rounds, told in ((0, 0), (1, 5), (2, 7), (3, 9), (1000, 2003), (MOST, 2 * MOST + 3)):
            self.assertEqual(rounds_beats(RIGHT, LOAD, rounds), told)
        for rounds, told in ((0, 0), (1, 1), (2, 2), (MOST, MOST)):
            self.assertEqual(rounds_beats(RIGHT, (IDLE,), rounds), told)
            self.assertEqual(rounds_beats(RIGHT, (IDLE,) * 6, rounds), 6 * told)

    def test_bodies_of_1_to_6(self):
        for design in (RIGHT, PATHLESS, FREE, ALL):
            for many in range(1, 7):
                self.assert_written_out(design, (BODY + BODY)[:many])
                self.assert_written_out(design, (("mul", 1, 1, 1),) * many)

    def test_one_of_each(self):
        for step in ONE_OF_EACH:
            if step[0] not in ("zero", "go"):
                for design in (RIGHT, PATHLESS, FREE, ALL):
                    self.assert_written_out(design, (step,), 40)

    def test_a_last_place_behind_that_of_the_last_one(self):
        # The set is written behind the beat in which the one idle behind it is laid on.
        for idle, told in ((0, 5), (1, 5), (4, 5), (5, 6)):
            body = (("set", 1, 2),) + (IDLE,) * idle
            self.assertEqual(rounds_beats(RIGHT, body, 1), told)
            self.assertEqual(rounds_beats(RIGHT, body, MOST), (MOST - 1) * (idle + 1) + told)

    def test_first_rounds_are_others(self):
        # What the first one of the body waits for is there from the second round on.
        design = distances_of({"mul": 8, "sum": 2})
        body = (("add", 1, 2, 2), IDLE, ("mul", 2, 3, 3))
        self.assertEqual([rounds_beats(design, body, rounds) for rounds in range(4)], [0, 4, 14, 24])
        self.assertEqual(rounds_beats(design, body, MOST), 10 * MOST - 6)

    def test_drawn_bodies_written_out(self):
        source = random.Random(60)
        for _ in range(120):
            design, body = random_even_design(source), random_body(source)
            for rounds in (0, 1, 2, 3, source.randint(4, 60)):
                told = reference_beats_of(design, rightly(body * rounds))
                self.assertEqual(rounds_beats(design, body, rounds), told, (design, body, rounds))

    def test_many_rounds_by_fewer(self):
        # In the long run the same comes again, whatever comes first.
        source = random.Random(61)
        for _ in range(60):
            design, body = random_even_design(source), random_body(source)
            beats, rounds = pace(design, body)
            for many in (MOST - 7 * rounds, MOST - rounds, 10 ** 6):
                one, other = rounds_beats(design, body, many), rounds_beats(design, body, many + rounds)
                period = math.lcm(1, 2, 3, 4, 5, 6)
                far = rounds_beats(design, body, 5000 + period * rounds)
                self.assertEqual(far - rounds_beats(design, body, 5000), period * beats)
                self.assertLess(one, other)
                # Not far from what the pace tells.
                self.assertLess(abs(one - Fraction(beats, rounds) * many), 200)


class PaceTest(unittest.TestCase):
    def test_ordinary(self):
        for design, body, told in (
                (RIGHT, LOAD, (2, 1)), (RIGHT, (IDLE,), (1, 1)), (RIGHT, (IDLE,) * 6, (6, 1)), (FREE, LOAD, (1, 1)),
                (ALL, LOAD, (8, 1)), (PATHLESS, LOAD, (3, 1)), (RIGHT, BODY, (4, 1)), (PATHLESS, BODY, (7, 1)),
                (RIGHT, (("load", 1, 0, 0),), (1, 1)), (ALL, (("store", 1, 1, 1),), (1, 1)),
                (ALL, (("store", 1, 1, 1), ("load", 2, 1, 1)), (16, 1)), (ALL, (("out", 1),) * 5, (5, 1))):
            self.assertEqual(pace(design, body), told, (design, body))

    def test_rings_of_one_round(self):
        # Each uses what the one ahead of it writes.
        body = (("add", 1, 3, 3), ("add", 2, 1, 1), ("mul", 3, 2, 2))
        for many, told in (({"sum": 8, "mul": 8}, 24), ({"sum": 3, "mul": 8}, 14), ({"sum": 2, "mul": 2}, 6)):
            self.assertEqual(pace(distances_of(many), body), (told, 1))
            self.assertEqual(pace_ring(distances_of(many), body), ((0, 0), (1, 0), (2, 1)))
        # With no distance but that of the mul, the step over the one between is as good.
        self.assertEqual(pace(distances_of({"mul": 2}), body), (4, 1))
        self.assertEqual(pace_ring(distances_of({"mul": 2}), body), ((0, 0), (2, 1)))
        # Without any waits each round is as long as the body.
        self.assertEqual(pace(distances_of({}), body), (3, 1))
        self.assertEqual(pace_ring(distances_of({}), body), ((0, 1),))

    def test_rings_of_more_rounds(self):
        for many, told in (({"sum": 4, "mul": 4, "load": 8}, (10, 1)), ({"sum": 4, "mul": 5, "load": 8}, (21, 2)),
                           ({"sum": 4, "mul": 4, "load": 7}, (19, 2))):
            self.assertEqual(pace(distances_of(many), CROSSED), told)
            self.assertEqual(pace_ring(distances_of(many), CROSSED), ((0, 0), (2, 1), (1, 0), (3, 1)))
            for first in range(4):
                ring = ((0, 0), (2, 1), (1, 0), (3, 1))
                self.assertEqual(ring_pace(distances_of(many), CROSSED, ring[first:] + ring[:first]), told)
        # Here a ring of one round has the same pace and is shorter, and here a greater one.
        for many, told in (({"sum": 5, "mul": 4, "load": 8}, (11, 1)), ({"sum": 8, "mul": 7, "load": 7}, (17, 1))):
            self.assertEqual(pace(distances_of(many), CROSSED), told)
            self.assertEqual(pace_ring(distances_of(many), CROSSED), ((0, 0), (2, 0), (3, 1)))

    def test_rounds_of_a_fraction(self):
        design = distances_of({"sum": 4, "mul": 5, "load": 8})
        told = [rounds_beats(design, CROSSED, rounds + 1) - rounds_beats(design, CROSSED, rounds) for rounds in range(50, 58)]
        self.assertEqual(sum(told), 84)
        self.assertEqual(told, (told[:2] * 4))
        self.assertEqual(rounds_beats(design, CROSSED, MOST) - rounds_beats(design, CROSSED, 10), 21 * (MOST - 10) // 2)

    def test_as_all_rings(self):
        source, lengths, rounds = random.Random(62), set(), set()
        for at in range(150):
            design, body = random_even_design(source), random_body(source, 5 if at < 10 else 4)
            told, ring = reference_pace_ring(design, body)
            self.assertEqual(pace(design, body), told, (design, body))
            self.assertEqual(pace_ring(design, body), ring, (design, body))
            lengths.add(len(ring))
            rounds.add(told[1])
        self.assertTrue({1, 2, 3} <= lengths)
        self.assertTrue({1, 2} <= rounds)

    def test_no_ring_has_a_greater_one(self):
        source = random.Random(63)
        for _ in range(25):
            design, body = random_even_design(source), random_body(source, 4)
            told = Fraction(*pace(design, body))
            rings = list(all_rings(len(body)))
            for ring in source.sample(rings, min(len(rings), 60)):
                beats, rounds = ring_pace(design, body, ring)
                self.assertEqual(Fraction(beats, rounds), reference_ring_pace(design, body, ring))
                self.assertEqual(math.gcd(beats, rounds), 1)
                self.assertLessEqual(Fraction(beats, rounds), told)


class RingPaceTest(unittest.TestCase):
    def test_number_of_instructions(self):
        body = (IDLE,) * 6
        for ring, told in (
                (((0, 1),), (6, 1)), (((5, 1),), (6, 1)), (((0, 0), (5, 1)), (6, 1)), (((0, 0), (1, 1)), (6, 1)),
                (((5, 1), (0, 0)), (6, 1)), (((0, 1), (5, 1)), (6, 1)), (((0, 1), (1, 1), (2, 1)), (6, 1))):
            for design in (RIGHT, ALL):
                self.assertEqual(ring_pace(design, body, ring), told)

    def test_value_by_the_last_writer(self):
        body = (("load", 1, 0, 0), ("add", 2, 1, 1), ("load", 1, 0, 0))
        for design, ring, told in (
                (ALL, ((0, 0), (1, 1)), (10, 1)), (ALL, ((1, 1), (0, 0)), (10, 1)), (ALL, ((0, 0), (2, 1)), (16, 1)),
                # A round later the load at place 2 is the last one that writes the register ahead of place 0.
                (PATHLESS, ((0, 0), (1, 1)), (5, 1)), (PATHLESS, ((0, 1), (1, 1)), (3, 1)),
                (PATHLESS, ((1, 1), (2, 1)), (3, 1)), (PATHLESS, ((1, 0), (2, 1)), (3, 1))):
            self.assertEqual(ring_pace(design, body, ring), told, ring)
        # Place 0 uses what both write, a round later; place 1 uses what place 0 writes, in the same round.
        body = (("mul", 1, 2, 1), ("mul", 2, 1, 1))
        for ring, told in ((((0, 1),), (8, 1)), (((0, 0), (1, 1)), (16, 1)), (((1, 1),), (2, 1)), (((0, 1), (1, 1)), (11, 2))):
            self.assertEqual(ring_pace(distances_of({"mul": 8}), body, ring), told, ring)

    def test_order_and_memory_of_all(self):
        body = (("store", 1, 1, 1), ("load", 2, 2, 2), ("load", 3, 3, 3))
        waits = tuple(("memory", "store", "load", d) for d in (1, 2, 3, 4))
        design = with_waits(FREE, waits)
        for ring, told in ((((0, 0), (1, 1)), (7, 1)), (((0, 0), (2, 1)), (6, 1)), (((0, 1), (2, 1)), (3, 1)),
                           (((0, 1), (1, 1)), (7, 2)), (((0, 0), (1, 0), (2, 1)), (7, 1))):
            self.assertEqual(ring_pace(design, body, ring), told, ring)
        body = (("set", 1, 1), ("set", 1, 2), ("set", 2, 2))
        design = with_waits(FREE, tuple(("order", "set", "set", d) for d in range(1, 6)))
        for ring, told in ((((0, 1),), (6, 1)), (((0, 0), (1, 1)), (12, 1)), (((0, 0), (2, 1)), (3, 1)), (((2, 1),), (6, 1)),
                           (((0, 1), (1, 1)), (6, 1)), (((1, 1), (2, 1)), (3, 1))):
            self.assertEqual(ring_pace(design, body, ring), told, ring)

    def test_no_rings(self):
        for at, value in enumerate(NO_RINGS):
            with self.subTest(at):
                for design in (RIGHT, DESIGN, WITH_HOLES):
                    self.assertRaises(BadRing, ring_pace, design, BODY, value)

    def test_places_of_the_body(self):
        for many in range(1, 7):
            body = (IDLE,) * many
            self.assertEqual(ring_pace(RIGHT, body, ((many - 1, 1),)), (many, 1))
            self.assertRaises(BadRing, ring_pace, RIGHT, body, ((many, 1),))
            self.assertRaises(BadRing, ring_pace, RIGHT, body, ((many - 1, 0),))


class PaceRingTest(unittest.TestCase):
    def test_shortest_and_least(self):
        for design, body, told in (
                (RIGHT, LOAD, ((0, 1),)), (RIGHT, (IDLE,) * 6, ((0, 1),)), (RIGHT, BODY, ((0, 0), (1, 1))),
                (PATHLESS, BODY, ((0, 0), (1, 0), (2, 1))),
                # Two of one instruction each, of which the one at place 1 is less.
                (ALL, (IDLE, ("mul", 1, 1, 1), ("mul", 2, 2, 2)), ((1, 1),)),
                (ALL, (("store", 1, 1, 1), ("load", 2, 1, 1)), ((0, 0), (1, 1))),
                (ALL, (("load", 2, 1, 1), ("store", 1, 1, 1)), ((0, 0), (1, 1)))):
            self.assertEqual(pace_ring(design, body), told, body)

    def test_body_of_6(self):
        # Each uses what the one ahead of it writes.
        body = tuple(("mul", at, (at - 1) % 6, (at - 1) % 6) for at in range(6))
        self.assertEqual(pace(ALL, body), (48, 1))
        self.assertEqual(pace_ring(ALL, body), ((0, 0), (1, 0), (2, 0), (3, 0), (4, 0), (5, 1)))
        # Each uses what the one behind it wrote a round ago, so that only one step needs no round.
        self.assertEqual(pace(ALL, body[::-1]), (48, 5))
        self.assertEqual(pace_ring(ALL, body[::-1]), ((0, 0), (5, 1), (4, 1), (3, 1), (2, 1), (1, 1)))

    def test_as_a_look_at_all_rings_of_6(self):
        source = random.Random(64)
        for _ in range(2):
            design, body = random_even_design(source), ()
            while len(body) < 6:
                body = random_body(source)
            told, ring = reference_pace_ring(design, body)
            self.assertEqual((pace(design, body), pace_ring(design, body)), (told, ring))


class WrongArgumentsTest(unittest.TestCase):
    CALLS = ((rounds_beats, (1,)), (pace, ()), (ring_pace, (((0, 1),),)), (pace_ring, ()))

    def test_no_designs(self):
        for value in NO_DESIGNS:
            for function, rest in self.CALLS:
                self.assertRaises(BadDesign, function, value, BODY, *rest)
                self.assertRaises(BadDesign, function, value, None, *[None for _ in rest])

    def test_no_bodies(self):
        for value in NO_BODIES:
            for function, rest in self.CALLS:
                self.assertRaises(BadBody, function, RIGHT, value, *rest)
                self.assertRaises(BadBody, function, DESIGN, value, *[None for _ in rest])

    def test_no_rounds(self):
        for value in NO_ROUNDS:
            for design in (RIGHT, DESIGN, WITH_HOLES):
                self.assertRaises(BadNumber, rounds_beats, design, BODY, value)

    def test_not_made(self):
        for design in (DESIGN, WITH_HOLES, with_waits(PATHLESS, PATHLESS[4][1:]), with_waits(RIGHT, RIGHT[4][1:])):
            for function, rest in self.CALLS:
                self.assertRaises(NotMade, function, design, BODY, *rest)
            self.assertRaises(NotMade, rounds_beats, design, BODY, 0)
        for function, rest in self.CALLS:
            function(filled(WITH_HOLES), BODY, *rest)
            self.assertRaises(NotMade, function, LATEST[:1] + (False,) + LATEST[2:], BODY, *rest)
