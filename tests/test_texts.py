"""Point 7: programs as texts, with labels and empty lines."""

import random
import unittest

from stagebelt.errors import BadProgram, InvalidText, NotText
from stagebelt.texts import assembled, written
from tests.reference import random_program
from tests.samples import NO_INSTRUCTIONS, NO_TUPLES, ONE_OF_EACH

TEXT = """idle
set r1 300
add r1 r2 r3
sub r2 r3 r4
and r3 r4 r5
less r4 r5 r6
mul r5 r6 r7
load r6 r7 9
store r7 r1 8
zero r2 1
go 3
out r4"""

NO_STRINGS = tuple(value for value in NO_TUPLES if not isinstance(value, str)) + ((), ("idle",), ["idle"], (("idle",),))

# Lines that are none, whatever stands around them.
NO_LINES = (
    " ", "  ", "\t", "idle ", " idle", "IDLE", "Idle", "idl", "idle 0", "idle r0", "nop", "sum r1 r2 r3", "idle:x", ";",
    "#", "idle\r", "\r", "idle\t", "idle\x0b", "idle\x0cidle", "idle\u2028idle", "\x85",
    # registers
    "out", "out 1", "out r8", "out r9", "out r", "out r01", "out r10", "out R1", "out r-1", "out r1 ", "out  r1",
    "out r1 r2", "out r\u0661", "out rr", "out 1r", "add r1 r2", "add r1 r2 r3 r4", "add r1, r2, r3", "add r1 r2 3",
    # numbers
    "set r1", "set r1 r2", "set 1 1", "set r1 01", "set r1 00", "set r1 -1", "set r1 +1", "set r1 1_0", "set r1 1.",
    "set r1 65536", "set r1 100000", "set r1 99999", "set r1 " + "9" * 5000, "set r1 0x1", "set r1 1e1", "set r1 ",
    "set r1 \u0661", "set r1 \u00b2", "set r1 a", "set r1 x", "set r1 1x", "load r1 r2 16",
    "load r1 r2 00", "load r1 2 3", "load r1 r2 r3",
    "load r1 r2", "load r1 r2 -1", "load r1 r2 20", "store r1 r2 16", "store r1 2", "store r1 r2 015",
    # goals
    "go", "go r1", "go 01", "go 00", "go -1", "go +1", "go A", "go aB", "go a1", "go a:", "go :a", "go abcdefghi",
    "go a_b", "go \u00e4", "go \u0661", "go a b", "go 1 2", "go ", "go  1", "go 1 ", "zero r1", "zero 1 1", "zero 1",
    "zero r8 1", "zero r1 01", "zero r1 abcdefghi", "zero r1 r1", "zero r1 1 1", "go 1a",
    # labels
    ":", "a :", " a:", "a: ", "A:", "aB:", "a1:", "1:", "a_b:", "abcdefghi:", "a::", "::", "a:b", "a:idle", "a: idle",
    "\u00e4:", "a b:", "idle :",
)


class WrittenTest(unittest.TestCase):
    def test_ordinary(self):
        self.assertEqual(written(ONE_OF_EACH), TEXT)
        self.assertEqual(written(()), "")
        self.assertEqual(written((("store", 2, 0, 1),)), "store r2 r0 1")
        self.assertEqual(written((("idle",),) * 60), "\n".join(["idle"] * 60))

    def test_wrong_programs(self):
        for value in NO_TUPLES + ((("idle",),) * 61,):
            with self.assertRaises(BadProgram) as caught:
                written(value)
            self.assertIsNone(caught.exception.index)
        for value in NO_INSTRUCTIONS + (("go", 4),):
            with self.assertRaises(BadProgram) as caught:
                written((("idle",), ("go", 3), value))
            self.assertEqual(caught.exception.index, 2)


class AssembledTest(unittest.TestCase):
    def test_ordinary(self):
        self.assertEqual(assembled(TEXT), ONE_OF_EACH)
        self.assertEqual(assembled("idle"), (("idle",),))
        self.assertEqual(assembled("a:\nset r1 5\ngo a"), (("set", 1, 5), ("go", 0)))

    def test_there_and_back(self):
        source = random.Random(8)
        for _ in range(200):
            program = random_program(source)
            self.assertEqual(assembled(written(program)), program)

    def test_limits_of_numbers(self):
        self.assertEqual(assembled("set r7 65535\nload r0 r7 15\nstore r7 r0 0\nset r0 0"),
                         (("set", 7, 65535), ("load", 0, 7, 15), ("store", 7, 0, 0), ("set", 0, 0)))

    def test_empty_lines(self):
        self.assertEqual(assembled(""), ())
        self.assertEqual(assembled("\n\n"), ())
        self.assertEqual(assembled("\nidle\n\n\nout r1\n"), (("idle",), ("out", 1)))

    def test_labels(self):
        text = "go end\nfirst:\n\nout r1\nzero r2 first\nsame:\nalso:\ngo same\ngo also\ngo 0\nend:"
        self.assertEqual(assembled(text), (
            ("go", 6), ("out", 1), ("zero", 2, 1), ("go", 3), ("go", 3), ("go", 0)))

    def test_labels_without_instructions(self):
        self.assertEqual(assembled("a:\nb:\nzyxwvuts:"), ())

    def test_labels_called_as_instructions(self):
        self.assertEqual(assembled("idle:\ngo go\ngo:\nzero r0 idle\nr:\nset r1 1\nset:"),
                         (("go", 1), ("zero", 0, 0), ("set", 1, 1)))
        self.assertEqual(assembled("abcdefgh:\ngo abcdefgh\ngo z\nz:"), (("go", 0), ("go", 2)))

    def test_sixty_instructions(self):
        text = "a:\n" + "idle\n" * 59 + "go b\nb:\n\nc:"
        self.assertEqual(assembled(text), (("idle",),) * 59 + (("go", 60),))
        self.assertEqual(len(assembled("idle\n" * 59 + "go 60")), 60)


class InvalidTest(unittest.TestCase):
    def assert_invalid(self, text, line):
        with self.assertRaises(InvalidText) as caught:
            assembled(text)
        self.assertEqual(caught.exception.line, line)

    def test_no_text(self):
        for value in NO_STRINGS:
            with self.subTest(value), self.assertRaises(NotText):
                assembled(value)

    def test_no_lines(self):
        for line in NO_LINES:
            with self.subTest(line[:20]):
                self.assert_invalid(line, 1)
                self.assert_invalid("idle\na:\n\n" + line, 4)
                self.assert_invalid("idle\n" + line + "\nidle\n" + line, 2)

    def test_label_a_second_time(self):
        self.assert_invalid("a:\na:", 2)
        self.assert_invalid("a:\nidle\nb:\na:\nb:", 4)

    def test_61st_instruction(self):
        self.assert_invalid("idle\n" * 60 + "idle", 61)
        self.assert_invalid("a:\n\n" + "idle\n" * 60 + "\nb:\nidle\nidle", 65)
        self.assert_invalid("idle\n" * 61 + "wrong", 61)
        self.assert_invalid("idle\n" * 60 + "go b", 61)

    def test_goals(self):
        self.assert_invalid("go b", 1)
        self.assert_invalid("a:\nidle\nzero r1 b\ngo c", 3)
        self.assert_invalid("go 2", 1)
        self.assert_invalid("go 1\ngo 2\n\na:\nzero r0 4", 5)
        self.assert_invalid("idle\ngo 61", 2)
        self.assert_invalid("idle\n" * 59 + "go 61", 60)
        self.assert_invalid("go " + "9" * 5000, 1)
        self.assert_invalid("go 2\ngo b", 2)

    def test_no_line_ahead_of_goals(self):
        self.assert_invalid("go b\ngo 99\nwrong", 3)
        self.assert_invalid("go b\na:\na:", 3)
        self.assert_invalid("go 61\n" * 60 + "idle", 61)
        self.assert_invalid("go 70000\nset r1 70000", 2)
        self.assert_invalid("go " + "9" * 5000 + "\ngo 01", 2)
        self.assert_invalid("go b\ngo B", 2)
        self.assert_invalid("go b\ngo abcdefghi", 2)

    def test_goals_in_order_of_lines(self):
        self.assert_invalid("go 9\ngo b", 1)
        self.assert_invalid("go b\ngo 9", 1)
        self.assert_invalid("b:\ngo b\n\ngo 9\ngo c", 4)
