"""Point 6: the codes of instructions and programs."""

import copy
import random
import unittest

from stagebelt.codes import code, coded, image, program_of
from stagebelt.errors import BadInstruction, BadProgram, BadWord, BadWords
from stagebelt.programs import is_instruction
from tests.reference import random_instruction, random_program
from tests.samples import NO_INSTRUCTIONS, NO_WORDS, ONE_OF_EACH

# The codes of ONE_OF_EACH, computed by hand.
CODES = (
    (0, 0), (4096 + 512, 300), (8192 + 512 + 128 + 24, 0), (12288 + 1024 + 192 + 32, 0),
    (16384 + 1536 + 256 + 40, 0), (20480 + 2048 + 320 + 48, 0), (24576 + 2560 + 384 + 56, 0),
    (28672 + 3072 + 448, 9), (32768 + 64 + 56, 8), (36864 + 128, 1), (40960, 3), (45056 + 256, 0),
)


class CodeTest(unittest.TestCase):
    def test_one_of_each(self):
        self.assertEqual(tuple(code(instruction) for instruction in ONE_OF_EACH), CODES)
        self.assertEqual(tuple(coded(*pair) for pair in CODES), ONE_OF_EACH)

    def test_greatest(self):
        for instruction, pair in (
                (("set", 7, 65535), (4096 + 3584, 65535)), (("less", 7, 7, 7), (5 * 4096 + 4088, 0)),
                (("load", 7, 7, 15), (7 * 4096 + 4032, 15)), (("store", 7, 7, 15), (8 * 4096 + 504, 15)),
                (("zero", 7, 60), (9 * 4096 + 448, 60)), (("go", 60), (40960, 60)), (("out", 7), (45056 + 448, 0))):
            with self.subTest(instruction):
                self.assertEqual(code(instruction), pair)
                self.assertEqual(coded(*pair), instruction)

    def test_there_and_back(self):
        source = random.Random(6)
        for _ in range(3000):
            instruction = random_instruction(source, 60)
            self.assertEqual(coded(*code(instruction)), instruction)

    def test_all_first_words(self):
        """A pair of words tells an instruction just if it is the code of one."""
        counts = {}
        for other in (0, 1, 15, 16, 60, 61, 65535):
            told = 0
            for one in range(65536):
                instruction = coded(one, other)
                if instruction is not None:
                    told += 1
                    self.assertTrue(is_instruction(instruction))
                    self.assertEqual(code(instruction), (one, other))
            counts[other] = told
        both = 8 + 64 + 64 + 8 + 1
        self.assertEqual(counts, {0: both + 1 + 5 * 512 + 8, 1: both, 15: both, 16: 17, 60: 17, 61: 8, 65535: 8})

    def test_no_instruction(self):
        for pair in ((1, 0), (0, 1), (512, 0), (64, 0), (8, 0), (4096 + 64, 1), (4096 + 8, 1), (8192 + 1, 0),
                     (8192 + 7, 0), (8192, 1), (28672 + 8, 0), (28672, 16), (32768 + 512, 0), (32768, 16),
                     (36864 + 8, 0), (36864 + 512, 0), (36864, 61), (40960, 61), (40960 + 64, 0), (45056 + 8, 0),
                     (45056, 1), (12 * 4096, 0), (13 * 4096, 0), (15 * 4096, 0), (65535, 0), (65535, 65535)):
            with self.subTest(pair):
                self.assertIsNone(coded(*pair))

    def test_wrong_instructions(self):
        for value in NO_INSTRUCTIONS + (("go", 61), ("zero", 0, 61), ("set", 8, 0)):
            with self.subTest(value), self.assertRaises(BadInstruction):
                code(value)

    def test_wrong_words(self):
        for value in NO_WORDS:
            self.assertRaises(BadWord, coded, value, 0)
            self.assertRaises(BadWord, coded, 0, value)
            self.assertRaises(BadWord, coded, 65535, value)


class ImageTest(unittest.TestCase):
    def test_ordinary(self):
        self.assertEqual(image(()), ())
        self.assertEqual(image((("go", 1),)), (40960, 1))
        self.assertEqual(image(ONE_OF_EACH), tuple(number for pair in CODES for number in pair))
        self.assertEqual(program_of(()), ())
        self.assertEqual(program_of((40960, 1)), (("go", 1),))
        self.assertEqual(program_of(image(ONE_OF_EACH)), ONE_OF_EACH)

    def test_there_and_back(self):
        source = random.Random(7)
        for _ in range(200):
            program = random_program(source)
            self.assertEqual(program_of(image(program)), program)
            self.assertEqual(len(image(program)), 2 * len(program))

    def test_sizes(self):
        self.assertEqual(image((("out", 1),) * 60), (45056 + 64, 0) * 60)
        self.assertEqual(program_of((0,) * 120), (("idle",),) * 60)
        self.assertIsNone(program_of((0,) * 119))
        self.assertIsNone(program_of((0,)))
        for many in (121, 122, 1000):
            self.assertRaises(BadWords, program_of, (0,) * many)

    def test_no_program(self):
        self.assertIsNone(program_of((1, 0)))
        self.assertIsNone(program_of((0, 0, 0, 1)))
        self.assertIsNone(program_of((0, 0, 65535, 65535, 0, 0)))

    def test_goals(self):
        for many in (1, 2, 30, 60):
            ahead = (0, 0) * (many - 1)
            self.assertEqual(program_of(ahead + (40960, many))[-1], ("go", many))
            self.assertEqual(program_of(ahead + (36864, many))[-1], ("zero", 0, many))
            self.assertIsNone(program_of(ahead + (40960, many + 1)))
            self.assertIsNone(program_of(ahead + (36864, many + 1)))
        self.assertIsNone(program_of((40960, 2, 0, 0, 40960, 4)))

    def test_wrong_programs(self):
        for value in (None, True, [], [("idle",)], "", (("idle",),) * 61):
            with self.assertRaises(BadProgram) as caught:
                image(value)
            self.assertIsNone(caught.exception.index)
        for value in NO_INSTRUCTIONS + (("go", 3),):
            with self.assertRaises(BadProgram) as caught:
                image((("idle",), value))
            self.assertEqual(caught.exception.index, 1)

    def test_wrong_words(self):
        for value in (None, True, 0, 5, "", "12", [], [0, 0], {}, {0: 0}):
            with self.subTest(value), self.assertRaises(BadWords):
                program_of(value)
        for value in NO_WORDS:
            self.assertRaises(BadWords, program_of, (value,))
            self.assertRaises(BadWords, program_of, (0, value))
            self.assertRaises(BadWords, program_of, (1, 0, 0, value))

    def test_not_modified(self):
        words, program = [0, 0], [["idle"]]
        kept = copy.deepcopy((words, program))
        self.assertRaises(BadWords, program_of, words)
        self.assertRaises(BadProgram, image, program)
        self.assertEqual((words, program), kept)
