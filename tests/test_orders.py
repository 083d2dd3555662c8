"""Point 28: which orders of a block may be, and which of them lose least."""

import itertools
import random
import unittest

from stagebelt.beats import beats_of
from stagebelt.designs import with_waits
from stagebelt.errors import BadBody, BadDesign, BadOrder, NotMade
from stagebelt.plain import ended
from stagebelt.speeds import best_order, may_order, order_beats
from tests.reference import random_state
from tests.reference_beats import random_body, reference_best_order, reference_beats_of, reference_may_order, rightly
from tests.reference_belt import random_design
from tests.samples import (
    BODY, DESIGN, LATEST, NO_BODIES, NO_DESIGNS, NO_ORDERS, ONE_OF_EACH, PATHLESS, RIGHT, WITH_HOLES)

IDLE = ("idle",)
BLOCK = (("load", 1, 0, 0), ("add", 2, 1, 1), ("load", 3, 0, 1), ("add", 4, 3, 3))


class MayOrderTest(unittest.TestCase):
    def assert_stay(self, one, other, stay):
        for block in ((one, other), (other, one)):
            self.assertIs(may_order(block, (0, 1)), True)
            self.assertIs(may_order(block, (1, 0)), not stay, block)

    def test_of_registers(self):
        for one, other, stay in (
                (("set", 1, 2), ("set", 1, 3), True), (("set", 1, 2), ("set", 2, 2), False),
                (("set", 1, 2), ("add", 2, 1, 3), True), (("set", 1, 2), ("add", 2, 3, 1), True),
                (("set", 1, 2), ("mul", 2, 3, 4), False), (("add", 1, 2, 3), ("sub", 4, 2, 3), False),
                (("add", 1, 1, 1), ("and", 2, 2, 2), False), (("less", 1, 2, 3), ("mul", 2, 4, 5), True),
                (("set", 1, 2), ("load", 2, 1, 0), True), (("set", 1, 2), ("load", 1, 2, 0), True),
                (("set", 1, 2), ("load", 2, 3, 1), False), (("set", 1, 2), ("store", 1, 2, 0), True),
                (("set", 1, 2), ("store", 2, 1, 0), True), (("set", 1, 2), ("store", 2, 3, 1), False),
                (("set", 1, 2), ("out", 1), True), (("set", 1, 2), ("out", 2), False),
                (("load", 1, 0, 2), ("load", 2, 0, 2), False), (("load", 1, 0, 2), ("load", 2, 1, 2), True),
                (("load", 1, 0, 2), ("out", 1), True), (("load", 1, 0, 2), ("out", 0), False)):
            self.assert_stay(one, other, stay)

    def test_of_memory(self):
        for one, other, stay in (
                (("store", 1, 2, 3), ("load", 4, 5, 6), True), (("store", 1, 2, 3), ("store", 4, 5, 6), True),
                (("load", 1, 2, 3), ("load", 4, 5, 6), False), (("store", 1, 2, 3), ("out", 1), False),
                (("store", 1, 2, 3), ("store", 1, 2, 3), True)):
            self.assert_stay(one, other, stay)

    def test_of_what_is_shown(self):
        self.assert_stay(("out", 1), ("out", 1), True)
        self.assert_stay(("out", 1), ("out", 2), True)

    def test_idle_goes_anywhere(self):
        for step in ONE_OF_EACH:
            if step[0] not in ("zero", "go"):
                self.assert_stay(IDLE, step, False)

    def test_all_orders_of_a_block(self):
        told = [order for order in itertools.permutations(range(4)) if may_order(BLOCK, order)]
        self.assertEqual(told, [(0, 1, 2, 3), (0, 2, 1, 3), (0, 2, 3, 1), (2, 0, 1, 3), (2, 0, 3, 1), (2, 3, 0, 1)])

    def test_not_only_neighbours(self):
        block = (("set", 1, 2), IDLE, ("out", 1))
        told = [order for order in itertools.permutations(range(3)) if may_order(block, order)]
        self.assertEqual(told, [(0, 1, 2), (0, 2, 1), (1, 0, 2)])

    def test_blocks_of_1_and_of_6(self):
        self.assertIs(may_order((("out", 1),), (0,)), True)
        self.assertIs(may_order((IDLE,) * 6, (5, 4, 3, 2, 1, 0)), True)
        self.assertIs(may_order((("out", 1),) * 6, (0, 1, 2, 3, 5, 4)), False)

    def test_as_the_second_way_and_the_plain_machine(self):
        source, told = random.Random(70), []
        for _ in range(300):
            block = random_body(source)
            order = tuple(source.sample(range(len(block)), len(block)))
            told.append(may_order(block, order))
            self.assertIs(told[-1], reference_may_order(block, order))
            if told[-1]:
                state = random_state(source)
                self.assertEqual(ended(tuple(block[at] for at in order), state), ended(block, state))
        self.assertGreater(told.count(True), 30)

    def test_wrong_arguments(self):
        for value in NO_BODIES:
            self.assertRaises(BadBody, may_order, value, (0,))
            self.assertRaises(BadBody, may_order, value, None)
        for at, value in enumerate(NO_ORDERS):
            with self.subTest(at):
                self.assertRaises(BadOrder, may_order, BODY, value)


class BestOrderTest(unittest.TestCase):
    def test_ordinary(self):
        self.assertEqual(best_order(RIGHT, BLOCK), (0, 2, 1, 3))
        self.assertEqual(order_beats(RIGHT, BLOCK, (0, 2, 1, 3)), 8)
        self.assertEqual(order_beats(RIGHT, BLOCK, (0, 1, 2, 3)), 10)

    def test_the_least_of_equal_ones(self):
        for design in (RIGHT, DESIGN, PATHLESS, LATEST):
            self.assertEqual(best_order(design, (IDLE,) * 6), (0, 1, 2, 3, 4, 5))
            self.assertEqual(best_order(design, (IDLE,)), (0,))
            self.assertEqual(best_order(design, (("out", 1),) * 6), (0, 1, 2, 3, 4, 5))
        # Without waits only the last place of what stands last counts.
        self.assertEqual(best_order(DESIGN, (("out", 1), ("set", 2, 2))), (1, 0))
        self.assertEqual(best_order(DESIGN, (("out", 1), ("set", 2, 2), ("set", 3, 3))), (1, 2, 0))
        self.assertEqual(best_order(DESIGN, (IDLE, ("out", 1), ("set", 2, 2))), (2, 0, 1))

    def test_any_design(self):
        # Neither is right without holes.
        self.assertEqual(best_order(DESIGN, BLOCK), (0, 1, 2, 3))
        self.assertEqual(best_order(WITH_HOLES, BLOCK), (0, 2, 1, 3))
        holes = with_waits(DESIGN, (("value", "load", "sum", "a", 2),))
        self.assertEqual([order_beats(holes, BLOCK, order) for order in ((0, 1, 2, 3), (0, 2, 1, 3), (2, 0, 3, 1))], [8, 9, 9])
        self.assertEqual(best_order(holes, BLOCK), (0, 1, 2, 3))

    def test_no_better_one(self):
        source = random.Random(71)
        for _ in range(60):
            design, block = random_design(source), random_body(source, 4)
            best = best_order(design, block)
            least = order_beats(design, block, best)
            for order in itertools.permutations(range(len(block))):
                if reference_may_order(block, order):
                    many = order_beats(design, block, order)
                    self.assertEqual(many, reference_beats_of(design, rightly(block[at] for at in order)))
                    self.assertLessEqual((least, best), (many, order))
                else:
                    self.assertRaises(NotMade, order_beats, design, block, order)

    def test_as_the_second_way(self):
        source = random.Random(72)
        for at in range(40):
            design, block = random_design(source), random_body(source, 6 if at < 5 else 5)
            self.assertEqual(best_order(design, block), reference_best_order(design, block), (design, block))

    def test_order_beats(self):
        for design in (RIGHT, DESIGN, PATHLESS):
            self.assertEqual(order_beats(design, BODY, (0, 1, 2)), beats_of(design, rightly(BODY)))
            self.assertRaises(NotMade, order_beats, design, BODY, (1, 0, 2))

    def test_wrong_arguments(self):
        for value in NO_DESIGNS:
            self.assertRaises(BadDesign, best_order, value, BODY)
            self.assertRaises(BadDesign, best_order, value, None)
            self.assertRaises(BadDesign, order_beats, value, BODY, (1, 0, 2))
            self.assertRaises(BadDesign, order_beats, value, None, None)
        for value in NO_BODIES:
            self.assertRaises(BadBody, best_order, DESIGN, value)
            self.assertRaises(BadBody, order_beats, DESIGN, value, (0, 1, 2))
            self.assertRaises(BadBody, order_beats, DESIGN, value, None)
        for value in NO_ORDERS:
            self.assertRaises(BadOrder, order_beats, DESIGN, BODY, value)
