"""Points 3 and 4: instructions and programs, kinds, registers written and used."""

import unittest

from stagebelt.errors import BadInstruction, BadProgram
from stagebelt.plain import ended, ran, stepped
from stagebelt.programs import is_instruction, kind_of, used_by, written_by
from tests.samples import NO_INSTRUCTIONS, NO_INTEGERS, NO_PROGRAMS, ONE_OF_EACH, START, with_part

# For each word, the greatest number of each of its parts; goals with 60.
LIMITS = {
    "idle": (), "set": (7, 65535), "add": (7, 7, 7), "sub": (7, 7, 7), "and": (7, 7, 7),
    "less": (7, 7, 7), "mul": (7, 7, 7), "load": (7, 7, 15), "store": (7, 7, 15), "zero": (7, 60),
    "go": (60,), "out": (7,),
}


class IsInstructionTest(unittest.TestCase):
    def test_ordinary(self):
        for instruction in ONE_OF_EACH:
            with self.subTest(instruction):
                self.assertIs(is_instruction(instruction), True)

    def test_no_instruction(self):
        for value in NO_INSTRUCTIONS:
            with self.subTest(value):
                self.assertIs(is_instruction(value), False)

    def test_limits_of_parts(self):
        for word, limits in LIMITS.items():
            greatest = (word,) + limits
            self.assertIs(is_instruction(greatest), True)
            self.assertIs(is_instruction((word,) + (0,) * len(limits)), True)
            for at in range(1, len(greatest)):
                with self.subTest(word, at=at):
                    self.assertIs(is_instruction(with_part(greatest, at, greatest[at] + 1)), False)
                    self.assertIs(is_instruction(with_part(greatest, at, -1)), False)

    def test_parts_that_are_no_integers(self):
        for instruction in ONE_OF_EACH:
            for at in range(1, len(instruction)):
                for value in NO_INTEGERS:
                    with self.subTest(instruction, at=at, value=value):
                        self.assertIs(is_instruction(with_part(instruction, at, value)), False)


class KindsTest(unittest.TestCase):
    def test_kind_of(self):
        kinds = [kind_of(instruction) for instruction in ONE_OF_EACH]
        self.assertEqual(kinds, ["idle", "set", "sum", "sum", "sum", "sum", "mul", "load", "store",
                                 "zero", "go", "out"])

    def test_written_by(self):
        written = [written_by(instruction) for instruction in ONE_OF_EACH]
        self.assertEqual(written, [None, 1, 1, 2, 3, 4, 5, 6, None, None, None, None])
        self.assertEqual(written_by(("set", 0, 5)), 0)

    def test_used_by(self):
        used = [used_by(instruction) for instruction in ONE_OF_EACH]
        self.assertEqual(used, [
            (), (), (("a", 2), ("a", 3)), (("a", 3), ("a", 4)), (("a", 4), ("a", 5)),
            (("a", 5), ("a", 6)), (("a", 6), ("a", 7)), (("a", 7),), (("a", 1), ("b", 7)),
            (("a", 2),), (), (("a", 4),)])

    def test_used_register_0_and_the_same_twice(self):
        self.assertEqual(used_by(("out", 0)), (("a", 0),))
        self.assertEqual(used_by(("mul", 7, 0, 0)), (("a", 0), ("a", 0)))
        self.assertEqual(used_by(("store", 0, 0, 15)), (("a", 0), ("b", 0)))

    def test_goals_to_60(self):
        self.assertEqual(kind_of(("go", 60)), "go")
        self.assertIsNone(written_by(("zero", 7, 60)))
        self.assertEqual(used_by(("zero", 7, 60)), (("a", 7),))

    def test_wrong_instructions(self):
        wrong = NO_INSTRUCTIONS + (("go", 61), ("zero", 0, 61), ("set", True, 0), ("out", False), ("out", 8))
        for function in (kind_of, written_by, used_by):
            for value in wrong:
                with self.subTest(function.__name__, value=value), self.assertRaises(BadInstruction):
                    function(value)


class ProgramsTest(unittest.TestCase):
    """What a program is, as all functions that take one tell it."""

    def assert_bad(self, program, index):
        for call in (lambda: stepped(program, START, 0), lambda: ran(program, START, 0),
                     lambda: ended(program, START)):
            with self.assertRaises(BadProgram) as caught:
                call()
            self.assertEqual(caught.exception.index, index)
            self.assertIsNot(type(caught.exception.index), bool)

    def test_no_tuple_of_at_most_60(self):
        for value in NO_PROGRAMS:
            with self.subTest(str(value)[:40]):
                self.assert_bad(value, None)

    def test_sizes(self):
        for size in (0, 1, 59, 60):
            self.assertEqual(ran((("idle",),) * size, START, 1000), (START, size, size))

    def test_first_wrong_item(self):
        for value in NO_INSTRUCTIONS:
            with self.subTest(value):
                self.assert_bad((value,), 0)
                self.assert_bad((("idle",), ("idle",), value, value), 2)
        self.assert_bad((("idle",),) * 59 + (("idle", 1),), 59)

    def test_goals_to_the_number_of_instructions(self):
        for size in (1, 2, 5, 60):
            rest = (("idle",),) * (size - 1)
            for jump in (("go", size), ("zero", 0, size)):
                self.assertEqual(ran(rest + (jump,), START, 1000), (START, size, size))
            for jump in (("go", size + 1), ("zero", 0, size + 1), ("go", -1), ("zero", 0, True), ("go", False)):
                with self.subTest(size, jump=jump):
                    self.assert_bad(rest + (jump,), size - 1)

    def test_first_wrong_goal_ahead_of_other_faults(self):
        self.assert_bad((("idle",), ("go", 4), "wrong"), 1)
        self.assert_bad((("set", 8, 0), ("go", 4)), 0)
