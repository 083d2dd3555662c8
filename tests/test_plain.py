"""Point 5: states and the plain machine, and what each instruction does (point 3)."""

import copy
import random
import unittest

from stagebelt.errors import BadNumber, BadProgram, BadState, TooLong
from stagebelt.plain import ended, ran, stepped
from tests.reference import random_program, random_state, reference_run, reference_step
from tests.samples import NO_INTEGERS, NO_STATES, NO_WORDS, START, with_part

REGISTERS, CELLS, SHOWN = START
IDLE = ("idle",)


def after(instruction, state=START, size=3):
    """What stepped tells of one instruction that stands at place 1 of some idle ones."""
    program = (IDLE, instruction) + (IDLE,) * (size - 2)
    return stepped(program, state, 1)


def all_calls(program, state):
    """Calls of all functions of the module with right numbers."""
    return (lambda: stepped(program, state, 0), lambda: ran(program, state, 5), lambda: ended(program, state))


class EffectsTest(unittest.TestCase):
    def assert_register(self, instruction, at, value):
        self.assertEqual(after(instruction), ((with_part(REGISTERS, at, value), CELLS, ()), 2))

    def test_idle(self):
        self.assertEqual(after(IDLE), (START, 2))

    def test_set(self):
        self.assert_register(("set", 0, 300), 0, 300)
        self.assert_register(("set", 7, 65535), 7, 65535)

    def test_sums(self):
        self.assert_register(("add", 2, 3, 4), 2, 11)
        self.assert_register(("add", 5, 5, 1), 5, 1)
        self.assert_register(("sub", 2, 4, 3), 2, 1)
        self.assert_register(("sub", 2, 3, 4), 2, 65535)
        self.assert_register(("and", 2, 3, 4), 2, 4)
        self.assert_register(("less", 2, 3, 4), 2, 1)
        self.assert_register(("less", 2, 4, 3), 2, 0)

    def test_mul(self):
        self.assert_register(("mul", 2, 3, 4), 2, 30)
        self.assert_register(("mul", 7, 6, 6), 7, 0)

    def test_load(self):
        self.assert_register(("load", 0, 2, 1), 0, 3)
        self.assert_register(("load", 0, 3, 10), 0, 65535)
        self.assert_register(("load", 0, 3, 11), 0, 7)
        self.assert_register(("load", 5, 5, 15), 5, 19)

    def test_store(self):
        self.assertEqual(after(("store", 3, 2, 1)), ((REGISTERS, with_part(CELLS, 1, 5), ()), 2))
        self.assertEqual(after(("store", 5, 4, 15)), ((REGISTERS, with_part(CELLS, 5, 65535), ()), 2))
        self.assertEqual(after(("store", 1, 5, 1)), ((REGISTERS, with_part(CELLS, 0, 2), ()), 2))

    def test_out(self):
        state = (REGISTERS, CELLS, (9, 8))
        self.assertEqual(after(("out", 5), state), ((REGISTERS, CELLS, (9, 8, 65535)), 2))

    def test_jumps(self):
        self.assertEqual(after(("zero", 0, 3)), (START, 3))
        self.assertEqual(after(("zero", 0, 0)), (START, 0))
        self.assertEqual(after(("zero", 1, 3)), (START, 2))
        self.assertEqual(after(("go", 3)), (START, 3))
        self.assertEqual(after(("go", 1)), (START, 1))

    def test_as_the_reference(self):
        source = random.Random(1)
        for _ in range(300):
            program, state = random_program(source), random_state(source)
            for at in range(len(program)):
                self.assertEqual(stepped(program, state, at), reference_step(program, state, at))


class RunsTest(unittest.TestCase):
    def test_as_the_reference(self):
        source = random.Random(2)
        for _ in range(100):
            program, state = random_program(source), random_state(source)
            for most in (0, 1, 2, 3, 10, 100, 999, 1000):
                self.assertEqual(ran(program, state, most), reference_run(program, state, most))
            final, following, done = reference_run(program, state, 1000)
            if following == len(program):
                self.assertEqual(ended(program, state), (final, done))
            else:
                with self.assertRaises(TooLong) as caught:
                    ended(program, state)
                self.assertEqual(caught.exception.most, 1000)

    def test_no_instruction(self):
        self.assertEqual(ran((), START, 0), (START, 0, 0))
        self.assertEqual(ran((), START, 1000), (START, 0, 0))
        self.assertEqual(ended((), START), (START, 0))

    def test_fewer_if_the_program_ends(self):
        program = (("set", 0, 4), ("out", 0))
        first = (with_part(REGISTERS, 0, 4), CELLS, ())
        final = (with_part(REGISTERS, 0, 4), CELLS, (4,))
        self.assertEqual(ran(program, START, 0), (START, 0, 0))
        self.assertEqual(ran(program, START, 1), (first, 1, 1))
        self.assertEqual(ran(program, START, 2), (final, 2, 2))
        self.assertEqual(ran(program, START, 3), (final, 2, 2))
        self.assertEqual(ended(program, START), (final, 2))

    def test_jump_to_the_end(self):
        program = (("go", 3), ("out", 0), ("out", 1))
        self.assertEqual(ran(program, START, 5), (START, 3, 1))
        self.assertEqual(ended(program, START), (START, 1))

    def test_ends_behind_exactly_1000(self):
        # A round of the loop has four instructions, one instruction stands ahead and one behind.
        loop = (("zero", 2, 5), ("sub", 2, 2, 1), IDLE, ("go", 1))
        state = (with_part(with_part(REGISTERS, 1, 1), 2, 249), CELLS, ())
        program = (IDLE,) + loop
        self.assertEqual(ended(program, state)[1], 998)
        self.assertEqual(ended(program + (IDLE,), state)[1], 999)
        self.assertEqual(ended(program + (IDLE, IDLE), state)[1], 1000)
        self.assertEqual(ran(program + (IDLE, IDLE), state, 1000)[1:], (7, 1000))
        with self.assertRaises(TooLong) as caught:
            ended(program + (IDLE, IDLE, IDLE), state)
        self.assertEqual(caught.exception.most, 1000)
        self.assertEqual(ran(program + (IDLE, IDLE, IDLE), state, 1000)[1:], (7, 1000))

    def test_without_an_end(self):
        for program in ((("go", 0),), (("out", 1), ("go", 0)), (IDLE, ("zero", 0, 0))):
            self.assertEqual(ran(program, START, 1000)[2], 1000)
            with self.assertRaises(TooLong) as caught:
                ended(program, START)
            self.assertEqual(caught.exception.most, 1000)

    def test_more_than_1000_shown_are_told(self):
        full = (REGISTERS, CELLS, (7,) * 1000)
        self.assertEqual(stepped((("out", 1),), full, 0)[0][2], (7,) * 1000 + (2,))
        self.assertEqual(ended((("out", 1),), full)[0][2], (7,) * 1000 + (2,))
        self.assertEqual(ran((("out", 1), ("go", 0)), full, 1000)[0][2], (7,) * 1000 + (2,) * 500)

    def test_more_than_1000_shown_are_not_taken(self):
        told = stepped((("out", 1),), (REGISTERS, CELLS, (7,) * 1000), 0)[0]
        for call in all_calls((IDLE,), told):
            self.assertRaises(BadState, call)


class WrongArgumentsTest(unittest.TestCase):
    def test_no_state(self):
        for value in NO_STATES:
            for call in all_calls((IDLE,), value):
                with self.subTest(str(value)[:60]), self.assertRaises(BadState):
                    call()

    def test_no_words_in_a_state(self):
        for part, at in ((0, 0), (0, 7), (1, 0), (1, 15), (2, 0), (2, 2)):
            for value in NO_WORDS:
                state = (REGISTERS, CELLS, (1, 2, 3))
                wrong = with_part(state, part, with_part(state[part], at, value))
                for call in all_calls((IDLE,), wrong):
                    with self.subTest(part=part, at=at), self.assertRaises(BadState):
                        call()

    def test_limits_of_a_state(self):
        greatest = ((65535,) * 8, (65535,) * 16, (65535,) * 1000)
        self.assertEqual(ran((), greatest, 0), (greatest, 0, 0))

    def test_number_of_an_instruction(self):
        program = (IDLE, IDLE)
        self.assertEqual(stepped(program, START, 1), (START, 2))
        for value in NO_INTEGERS + (-1, 2, 3, 60, 10 ** 5000):
            with self.assertRaises(BadNumber):
                stepped(program, START, value)

    def test_no_instruction_to_step(self):
        for value in (-1, 0, 1, None):
            self.assertRaises(BadNumber, stepped, (), START, value)

    def test_number_of_steps(self):
        for value in NO_INTEGERS + (-1, 1001, 10 ** 5000, -10 ** 5000):
            for program in ((), (IDLE,)):
                with self.assertRaises(BadNumber):
                    ran(program, START, value)

    def test_first_wrong_argument(self):
        for function in (stepped, ran):
            self.assertRaises(BadProgram, function, None, None, None)
            self.assertRaises(BadProgram, function, (None,), START, True)
            self.assertRaises(BadProgram, function, ("x",), None, 0)
            self.assertRaises(BadState, function, (IDLE,), None, None)
            self.assertRaises(BadState, function, (IDLE,), (), -1)
        self.assertRaises(BadState, stepped, (), [], 0)
        self.assertRaises(BadProgram, ended, [], [])

    def test_too_long_behind_all(self):
        self.assertRaises(BadState, ended, (("go", 0),), (REGISTERS, CELLS, (True,)))
        self.assertRaises(BadProgram, ended, (("go", 0), ("go", 3)), START)


class ArgumentsTest(unittest.TestCase):
    def test_not_modified(self):
        program = (("set", 1, 5), ("store", 1, 0, 3), ("out", 1))
        kept = copy.deepcopy((program, START))
        stepped(program, START, 1)
        ran(program, START, 3)
        ended(program, START)
        self.assertEqual((program, START), kept)

    def test_wrong_ones_not_modified(self):
        program, state = [["set", 1, 5]], [list(REGISTERS), list(CELLS), []]
        kept = copy.deepcopy((program, state))
        for call in all_calls(program, state):
            self.assertRaises(BadProgram, call)
        for call in all_calls((IDLE,), state):
            self.assertRaises(BadState, call)
        self.assertEqual((program, state), kept)

    def test_kinds_of_values(self):
        program = (("set", 1, 5), ("less", 2, 0, 1), ("out", 2))
        (registers, cells, shown), done = ended(program, START)
        for words in (registers, cells, shown):
            self.assertIs(type(words), tuple)
            self.assertEqual({type(item) for item in words}, {int})
        self.assertIs(type(done), int)
        self.assertIs(type(ended(program, START)), tuple)
        self.assertIs(type(stepped(program, START, 0)), tuple)
        self.assertIs(type(ran(program, START, 2)), tuple)
