"""Point 30: the desk."""

import random
import unittest

from stagebelt.belts import run
from stagebelt.designs import with_waits
from stagebelt.desks import Desk
from stagebelt.errors import BadDesign, BadNumber, BadProgram, BadState, InvalidText, NotText, TooLong
from stagebelt.plain import ran
from stagebelt.rights import missing
from stagebelt.texts import written
from tests.reference_belt import random_design, random_short_program
from tests.reference import random_state
from tests.samples import (
    DESIGN, EARLIEST, LEAST, NO_DESIGNS, NO_INTEGERS, NO_PROGRAMS, NO_STATES, ONE_OF_EACH, RIGHT, START, with_part)

PROGRAM = (("set", 1, 5), ("out", 1), ("add", 2, 1, 1), ("store", 2, 0, 3))
LOOP = (("out", 1), ("go", 0))
REGISTERS, CELLS, SHOWN = START

NO_MANY = NO_INTEGERS + (-1, 1001, 10 ** 5000, -10 ** 5000)

NO_STRINGS = (True, False, None, 0, 5, (), ("next",), [], ["next"], {}, {"next": 1}, ValueError("next"))

NO_LINES = (
    "", " ", "\n", "next ", " next", "Next", "next\n", "\nnext", "next 1", "nexts", "end", "regs ", "regs 1", "reg", "state",
    "done", "shown 1", "shown ", "show", "right 1", "right?", "missing 1", "missin", "run", "redesign", "quit",
    "forward", "forward ", "forward  1", "forward -1", "forward +1", "forward 01", "forward 00", "forward 1001",
    "forward 9999", "forward 1 ", " forward 1", "forward 1 1", "forward one", "forward 1.0", "forward 1_0", "forward1",
    "forward\t1", "forward 1\n", "forward " + "1" * 5000, "forward 1e2", "Forward 1", "forward 0x1", "back", "back ",
    "back 01", "back 1001", "back -1", "back 1 2", "back 1\n", "back all", "cell", "cell ", "cell 16", "cell -1",
    "cell 00", "cell 015", "cell 1 1", "cell r1", "cells 1", "beats", "beats ", "beats row", "beats table", "beats next ",
    "beats  next", "beats Next", "beats next next", "beats 1", "beats ('next',)", "beat next", "beats goal\n", "next goal",
)


class DeskTest(unittest.TestCase):
    def desk(self, design=DESIGN, program=PROGRAM, state=START):
        return Desk(design, program, state)

    def assert_at(self, desk, state, following, done):
        self.assertEqual((desk.state, desk.next, desk.done), (state, following, done))

    def assert_as_plain(self, desk, program, state, done):
        self.assert_at(desk, *ran(program, state, done))


class StepsTest(DeskTest):
    def test_beginning(self):
        self.assert_at(self.desk(), START, 0, 0)
        self.assert_at(self.desk(program=()), START, 0, 0)

    def test_forward_and_back(self):
        desk = self.desk()
        first = with_part(REGISTERS, 1, 5)
        second = with_part(first, 2, 10)
        for call, many, told in (
                (desk.forward, 1, ((first, CELLS, ()), 1, 1)), (desk.forward, 0, ((first, CELLS, ()), 1, 1)),
                (desk.forward, 2, ((second, CELLS, (5,)), 3, 3)), (desk.back, 1, ((first, CELLS, (5,)), 2, 2)),
                (desk.back, 0, ((first, CELLS, (5,)), 2, 2)), (desk.back, 2, (START, 0, 0)), (desk.back, 1, (START, 0, 0)),
                (desk.forward, 1000, ((second, with_part(CELLS, 3, 10), (5,)), 4, 4)),
                (desk.forward, 1000, ((second, with_part(CELLS, 3, 10), (5,)), 4, 4)),
                (desk.back, 1, ((second, CELLS, (5,)), 3, 3)), (desk.back, 1000, (START, 0, 0))):
            self.assertIsNone(call(many))
            self.assert_at(desk, *told)

    def test_jumps(self):
        desk = self.desk(program=(("zero", 0, 2), ("out", 1), ("go", 0)))
        for at in (2, 0, 2, 0, 2):
            desk.forward(1)
            self.assertEqual(desk.next, at)
        desk.back(2)
        self.assert_at(desk, START, 2, 3)

    def test_up_to_1000_in_all(self):
        desk = self.desk(program=LOOP)
        desk.forward(1000)
        self.assert_as_plain(desk, LOOP, START, 1000)
        for many in (1, 2, 1000):
            with self.assertRaises(TooLong) as caught:
                desk.forward(many)
            self.assertEqual(caught.exception.most, 1000)
            self.assert_as_plain(desk, LOOP, START, 1000)
        desk.forward(0)
        desk.back(400)
        self.assertRaises(TooLong, desk.forward, 401)
        self.assert_as_plain(desk, LOOP, START, 600)
        desk.forward(400)
        self.assert_as_plain(desk, LOOP, START, 1000)

    def test_only_what_would_be_done_counts(self):
        program = (("sub", 4, 4, 6), ("zero", 4, 3), ("go", 0)) + (("idle",),) * 2
        state = (with_part(with_part(REGISTERS, 4, 333), 6, 1), CELLS, ())
        desk = self.desk(program=program, state=state)
        desk.forward(999)
        desk.forward(1000)
        self.assert_at(desk, (with_part(state[0], 4, 0), CELLS, ()), 5, 1000)
        desk.forward(1000)
        self.assertEqual(desk.done, 1000)
        desk = self.desk(program=program + (("idle",),), state=state)
        desk.forward(999)
        self.assertRaises(TooLong, desk.forward, 1000)
        self.assertEqual(desk.done, 999)
        desk.forward(1)
        self.assertEqual((desk.next, desk.done), (5, 1000))

    def test_more_than_1000_words_shown(self):
        state = (REGISTERS, CELLS, (7,) * 1000)
        desk = self.desk(program=(("out", 1),) * 60, state=state)
        desk.forward(60)
        self.assertEqual(desk.state[2], (7,) * 1000 + (2,) * 60)
        self.assertEqual(len(desk.run("shown").split(" ")), 1060)

    def test_no_numbers(self):
        for program, done in ((PROGRAM, 2), (LOOP, 1000), ((), 0)):
            desk = self.desk(program=program)
            desk.forward(done)
            for value in NO_MANY:
                self.assertRaises(BadNumber, desk.forward, value)
                self.assertRaises(BadNumber, desk.back, value)
            self.assert_as_plain(desk, program, START, done)

    def test_as_the_plain_machine(self):
        source = random.Random(80)
        for _ in range(60):
            program, state = random_short_program(source), random_state(source)
            desk, done = self.desk(program=program, state=state), 0
            for _ in range(12):
                many = source.choice((0, 1, 2, 5, 40))
                if source.random() < 0.5:
                    desk.forward(many)
                    done = ran(program, state, done + many)[2]
                else:
                    desk.back(many)
                    done = max(0, done - many)
                self.assert_as_plain(desk, program, state, done)

    def test_two_desks(self):
        one, other = self.desk(), self.desk()
        one.forward(2)
        self.assert_at(other, START, 0, 0)
        other.redesign(RIGHT)
        self.assertEqual((one.run("missing"), other.run("missing")), ("7", "0"))


class LinesTest(DeskTest):
    def test_steps(self):
        desk = self.desk()
        for line, done in (("forward 3", 3), ("back 1", 2), ("forward 0", 2), ("back 0", 2), ("forward 1000", 4),
                           ("back 10", 0), ("back 1000", 0), ("forward 10", 4), ("back 1", 3)):
            self.assertIsNone(desk.run(line))
            self.assert_as_plain(desk, PROGRAM, START, done)

    def test_too_long(self):
        desk = self.desk(program=LOOP)
        self.assertIsNone(desk.run("forward 999"))
        self.assertRaises(TooLong, desk.run, "forward 2")
        self.assertRaises(TooLong, desk.run, "forward 1000")
        self.assert_as_plain(desk, LOOP, START, 999)

    def test_next(self):
        program = tuple(step if step[0] not in ("zero", "go") else step[:-1] + (len(ONE_OF_EACH),) for step in ONE_OF_EACH)
        desk = self.desk(program=program)
        for step in written(program).split("\n")[:-1]:
            self.assertEqual(desk.run("next"), step)
            desk.forward(1)
        self.assertEqual(desk.run("next"), "end")
        self.assertEqual(self.desk(program=()).run("next"), "end")
        # A goal stays a number, also beyond the number of instructions from here on.
        desk = self.desk(program=(("idle",), ("go", 2)))
        desk.forward(1)
        self.assertEqual(desk.run("next"), "go 2")

    def test_regs_cells_and_shown(self):
        desk = self.desk()
        self.assertEqual(desk.run("regs"), "0 2 0 5 6 65535 256 1")
        self.assertEqual([desk.run(f"cell {at}") for at in range(16)], [str(number) for number in CELLS])
        self.assertEqual(desk.run("shown"), "")
        desk.run("forward 4")
        self.assertEqual(desk.run("regs"), "0 5 10 5 6 65535 256 1")
        self.assertEqual((desk.run("cell 3"), desk.run("cell 15")), ("10", "65535"))
        self.assertEqual(desk.run("shown"), "5")
        self.assertEqual(self.desk(state=(REGISTERS, CELLS, (1, 0, 65535))).run("shown"), "1 0 65535")

    def test_designs(self):
        desk = self.desk()
        for design, right, many in ((DESIGN, "no", "7"), (RIGHT, "yes", "0"), (with_waits(DESIGN, LEAST[2:]), "no", "2"),
                                    (with_part(EARLIEST, 1, True), "yes", "0"), (EARLIEST, "no", str(len(missing(EARLIEST))))):
            self.assertIsNone(desk.redesign(design))
            self.assertEqual((desk.run("right"), desk.run("missing")), (right, many))

    def test_redesign_changes_nothing_else(self):
        desk = self.desk()
        desk.forward(2)
        desk.redesign(RIGHT)
        self.assert_as_plain(desk, PROGRAM, START, 2)
        for value in NO_DESIGNS:
            self.assertRaises(BadDesign, desk.redesign, value)
        self.assert_as_plain(desk, PROGRAM, START, 2)
        self.assertEqual(desk.run("right"), "yes")

    def test_beats(self):
        program = (("zero", 0, 3), ("load", 1, 0, 0), ("add", 2, 1, 1), ("load", 3, 0, 0), ("add", 4, 3, 3))
        desk = self.desk(program=program)
        for design in (DESIGN, RIGHT):
            desk.redesign(design)
            for done in (0, 1, 3):
                for guesser in ("next", "goal"):
                    self.assertEqual(desk.run("beats " + guesser), str(run(design, program, START, (guesser,))[2]))
                desk.forward(1)
            desk.back(1000)
        self.assertEqual((desk.run("beats next"), desk.run("beats goal")), ("10", "8"))

    def test_beats_from_the_state_of_the_beginning(self):
        # From the state at the end the jump would not go to its goal.
        program = (("zero", 0, 4), ("out", 1), ("out", 1), ("out", 1), ("set", 0, 1))
        desk = self.desk(program=program)
        self.assertEqual((desk.run("beats next"), desk.run("beats goal")), ("8", "6"))
        desk.forward(2)
        self.assertEqual(run(DESIGN, program, desk.state, ("next",))[2], 9)
        self.assertEqual((desk.run("beats next"), desk.run("beats goal")), ("8", "6"))
        self.assert_as_plain(desk, program, START, 2)

    def test_beats_without_an_end(self):
        desk = self.desk(program=LOOP)
        for line in ("beats next", "beats goal"):
            with self.assertRaises(TooLong) as caught:
                desk.run(line)
            self.assertEqual(caught.exception.most, 1000)
        self.assert_at(desk, START, 0, 0)

    def test_drawn_lines(self):
        source = random.Random(81)
        for _ in range(40):
            design, program, state = random_design(source), random_short_program(source), random_state(source)
            desk = Desk(design, program, state)
            desk.forward(source.randrange(9))
            self.assertEqual(desk.run("right"), "no" if missing(design) else "yes")
            self.assertEqual(desk.run("missing"), str(len(missing(design))))
            self.assertEqual(desk.run("regs").split(" "), [str(number) for number in desk.state[0]])
            self.assertEqual([int(number) for number in desk.run("shown").split()], list(desk.state[2]))
            lines = written(program).split("\n") + ["end"] if program else ["end"]
            self.assertEqual(desk.run("next"), lines[desk.next])

    def test_no_lines(self):
        desk = self.desk()
        desk.forward(2)
        for line in NO_LINES:
            with self.subTest(line), self.assertRaises(InvalidText) as caught:
                desk.run(line)
            self.assertEqual(caught.exception.line, 1)
        for value in NO_STRINGS:
            self.assertRaises(NotText, desk.run, value)
        self.assert_as_plain(desk, PROGRAM, START, 2)
        self.assertEqual(desk.run("missing"), "7")


class WrongArgumentsTest(DeskTest):
    def test_each_in_its_order(self):
        for value in NO_DESIGNS:
            self.assertRaises(BadDesign, Desk, value, PROGRAM, START)
            self.assertRaises(BadDesign, Desk, value, None, None)
        for value in NO_PROGRAMS:
            for state in (START, None):
                with self.assertRaises(BadProgram) as caught:
                    Desk(DESIGN, value, state)
                self.assertIsNone(caught.exception.index)
        with self.assertRaises(BadProgram) as caught:
            Desk(DESIGN, PROGRAM + (("go", 6),), None)
        self.assertEqual(caught.exception.index, 4)
        for value in NO_STATES:
            self.assertRaises(BadState, Desk, DESIGN, PROGRAM, value)

    def test_nothing_is_modified(self):
        program, state, design = [list(step) for step in PROGRAM], [list(part) for part in START], list(DESIGN)
        self.assertRaises(BadDesign, Desk, design, program, state)
        self.assertRaises(BadProgram, Desk, DESIGN, program, state)
        self.assertRaises(BadState, Desk, DESIGN, PROGRAM, state)
        self.assertEqual((program, state, design), (
            [list(step) for step in PROGRAM], [list(part) for part in START], list(DESIGN)))

    def test_read_only(self):
        desk = self.desk()
        for name in ("state", "next", "done"):
            self.assertRaises(AttributeError, setattr, desk, name, 1)
        self.assertTrue(all(name in vars(Desk) for name in (
            "forward", "back", "redesign", "run", "state", "next", "done")))

    def test_a_desk_is_no_value(self):
        desk = self.desk()
        self.assertRaises(BadDesign, desk.redesign, desk)
        self.assertRaises(BadNumber, desk.forward, desk)
        self.assertRaises(NotText, desk.run, desk)
        self.assertRaises(BadProgram, Desk, DESIGN, desk, START)
