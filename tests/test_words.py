"""Point 2: words and what is computed of them."""

import itertools
import unittest

from stagebelt.errors import BadNumber, BadWord
from stagebelt.words import added, both_bits, is_less, less_by, times, word
from tests.samples import NO_INTEGERS, NO_WORDS

EDGES = (0, 1, 2, 3, 12, 255, 256, 257, 300, 32767, 32768, 40000, 65534, 65535)

OPERATIONS = {
    added: lambda one, other: (one + other) % 65536,
    less_by: lambda one, other: (one - other) % 65536,
    times: lambda one, other: one * other % 65536,
    both_bits: lambda one, other: sum(2 ** k for k in range(16) if one >> k & 1 and other >> k & 1),
    is_less: lambda one, other: int(one < other),
}


class WordTest(unittest.TestCase):
    def test_rest(self):
        for number, rest in ((0, 0), (65535, 65535), (65536, 0), (65537, 1), (-1, 65535),
                             (-65535, 1), (-65536, 0), (-65537, 65535), (2 ** 100 + 5, 5),
                             (-2 ** 100 - 5, 65531), (10 ** 5000, 0)):
            with self.subTest(rest=rest):
                self.assertEqual(word(number), rest)

    def test_no_integer(self):
        for value in NO_INTEGERS:
            with self.subTest(value), self.assertRaises(BadNumber):
                word(value)


class OperationsTest(unittest.TestCase):
    def test_values(self):
        for operation, expected in OPERATIONS.items():
            for one, other in itertools.product(EDGES, EDGES):
                with self.subTest(operation.__name__, one=one, other=other):
                    self.assertEqual(operation(one, other), expected(one, other))

    def test_results_are_words(self):
        for operation in OPERATIONS:
            for one, other in itertools.product(EDGES, EDGES):
                result = operation(one, other)
                self.assertIs(type(result), int)
                self.assertTrue(0 <= result <= 65535)

    def test_around_the_limit(self):
        self.assertEqual(added(65535, 1), 0)
        self.assertEqual(added(65535, 65535), 65534)
        self.assertEqual(less_by(0, 1), 65535)
        self.assertEqual(less_by(0, 65535), 1)
        self.assertEqual(times(256, 256), 0)
        self.assertEqual(times(65535, 65535), 1)

    def test_order_of_arguments(self):
        self.assertEqual((less_by(5, 3), less_by(3, 5)), (2, 65534))
        self.assertEqual((is_less(5, 3), is_less(3, 5), is_less(3, 3)), (0, 1, 0))

    def test_wrong_first(self):
        for operation, value in itertools.product(OPERATIONS, NO_WORDS):
            with self.subTest(operation.__name__), self.assertRaises(BadWord):
                operation(value, 1)

    def test_wrong_second(self):
        for operation, value in itertools.product(OPERATIONS, NO_WORDS):
            with self.subTest(operation.__name__), self.assertRaises(BadWord):
                operation(1, value)

    def test_both_wrong(self):
        for operation, one in itertools.product(OPERATIONS, NO_WORDS):
            with self.subTest(operation.__name__), self.assertRaises(BadWord):
                operation(one, True)
