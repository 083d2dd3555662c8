"""Point 11: what guessers tell, seen by the instructions that are laid on."""

import unittest

from stagebelt.belts import broken, delayed, laid_on, on_belt, run
from stagebelt.errors import BadGuesser
from tests.samples import DESIGN, NO_GUESSERS, START, with_part

IDLE = ("idle",)

# Register 0 holds 0 and register 1 does not; a zero is decided two beats behind its laying on, a go one.
TAKEN = ("zero", 0)
NOT_TAKEN = ("zero", 1)


def numbers(program, guesser, design=DESIGN):
    """The numbers of all that were laid on, those thrown away as negative ones less 1."""
    return [-1 - number if thrown else number for _, number, thrown in laid_on(design, program, START, guesser)]


class NextAndGoalTest(unittest.TestCase):
    def test_next(self):
        self.assertEqual(numbers((TAKEN + (3,), IDLE, IDLE, IDLE), ("next",)), [0, -2, -3, 3])
        self.assertEqual(numbers((NOT_TAKEN + (3,), IDLE, IDLE, IDLE), ("next",)), [0, 1, 2, 3])
        self.assertEqual(numbers((("go", 2), IDLE, IDLE), ("next",)), [0, -2, 2])

    def test_goal(self):
        self.assertEqual(numbers((TAKEN + (3,), IDLE, IDLE, IDLE), ("goal",)), [0, 3])
        self.assertEqual(numbers((NOT_TAKEN + (3,), IDLE, IDLE, IDLE), ("goal",)), [0, -4, 1, 2, 3])
        self.assertEqual(numbers((("go", 2), IDLE, IDLE), ("goal",)), [0, 2])

    def test_goal_that_is_the_next_one(self):
        for guesser in (("next",), ("goal",), ("table", 1, 1), ("row", (1,))):
            self.assertEqual(numbers((TAKEN + (1,), IDLE), guesser), [0, 1])
            self.assertEqual(numbers((NOT_TAKEN + (1,), IDLE), guesser), [0, 1])
            self.assertEqual(numbers((("go", 1), IDLE), guesser), [0, 1])

    def test_end(self):
        self.assertEqual(numbers((IDLE, NOT_TAKEN + (3,), IDLE), ("goal",)), [0, 1, 2])
        self.assertEqual(run(DESIGN, (IDLE, NOT_TAKEN + (3,), IDLE), START, ("goal",))[1:], (3, 5))
        self.assertEqual(numbers((IDLE, TAKEN + (3,), IDLE), ("next",)), [0, 1, -3])
        self.assertEqual(run(DESIGN, (IDLE, TAKEN + (3,), IDLE), START, ("next",))[1:], (2, 4))


class RowTest(unittest.TestCase):
    def test_each_number_once(self):
        program = (("go", 1), ("go", 2), ("go", 3), IDLE)
        self.assertEqual(numbers(program, ("row", (1, 2, 3))), [0, 1, 2, 3])
        self.assertEqual(numbers(program, ("row", (3, 2, 3))), [0, -4, 1, 2, 3])
        self.assertEqual(numbers(program, ("row", (3, 2, 2))), [0, -4, 1, 2, -3, 3])

    def test_taken_again(self):
        program = (("go", 1), ("go", 2), ("go", 3), IDLE)
        self.assertEqual(numbers(program, ("row", (1, 2))), [0, 1, 2, -2, 3])
        self.assertEqual(numbers(program, ("row", (1,))), [0, 1, -2, 2, -2, 3])

    def test_rest_by_one_more_than_the_number(self):
        program = (NOT_TAKEN + (0,), IDLE, IDLE)
        self.assertEqual(numbers(program, ("row", (4,))), [0, -1, -1, 1, 2])
        self.assertEqual(numbers(program, ("row", (5,))), [0, 1, 2])
        self.assertEqual(numbers(program, ("row", (7,))), [0, 1, 2])
        self.assertEqual(numbers(program, ("row", (60,))), [0, -1, -1, 1, 2])
        self.assertEqual(numbers(program, ("row", (59,))), [0, 1, 2])
        self.assertEqual(numbers((("go", 1),), ("row", (60,))), [0, -1])

    def test_those_thrown_away_count(self):
        # Behind 0 the guess 1 is wrong; the go at 1, thrown away, takes the second number.
        program = (("zero", 0, 3), ("go", 2), IDLE, ("go", 4), IDLE)
        self.assertEqual(numbers(program, ("row", (1, 2, 4))), [0, -2, -3, 3, 4])
        self.assertEqual(numbers(program, ("row", (1, 2, 0))), [0, -2, -3, 3, -1, 4])
        self.assertEqual(numbers(program, ("row", (1, 4))), [0, -2, -5, 3, -2, 4])

    def test_lengths(self):
        program = (("go", 1),) + (IDLE,) * 59
        self.assertEqual(numbers(program, ("row", (1,) * 60)), list(range(60)))
        self.assertEqual(numbers(program, ("row", (1,) + (0,) * 59)), list(range(60)))


class TableTest(unittest.TestCase):
    def laid_behind(self, taken, guesser, first=0):
        """What is laid on behind a jump in each round of a loop: 5 if the next one is guessed, 6 for the goal.

        taken tells for each round whether the jump goes to its goal. It stands at first + 4. There are two
        more jumps: a zero at first + 11, which goes to its goal in the last round only, and a go at
        first + 12, which is decided ahead of each round but the first. All others stand so far from each
        other that every value is read as it should be.
        """
        cells = tuple(0 if goes else 1 for goes in taken) + (1,) * (16 - len(taken))
        registers = (0, 1, 0, 0, len(taken), 0, 0, 0)
        program = (IDLE,) * first + (
            ("load", 3, 2, 0), ("add", 2, 2, 1), IDLE, IDLE, ("zero", 3, first + 6), IDLE,
            ("less", 5, 2, 4), IDLE, IDLE, IDLE, IDLE, ("zero", 5, first + 13), ("go", first))
        laid = laid_on(DESIGN, program, (registers, cells, ()), guesser)
        return [laid[at + 1][1] - first for at, one in enumerate(laid) if one[1] == first + 4]

    def test_one_bit(self):
        taken = (1, 1, 0, 0, 1, 0, 1)
        self.assertEqual(self.laid_behind(taken, ("table", 6, 1)), [5, 6, 6, 5, 5, 6, 5])

    def test_two_bits(self):
        # The counter is 0 1 2 3 3 2 3 2 1 0 0 0 1 2 when the jump is laid on.
        taken = (1, 1, 1, 1, 0, 1, 0, 0, 0, 0, 0, 1, 1, 1)
        self.assertEqual(self.laid_behind(taken, ("table", 6, 2)), [5, 5, 6, 6, 6, 6, 6, 6, 5, 5, 5, 5, 5, 6])

    def test_counters_by_the_rest_of_the_number(self):
        # By 3, 5 and 6 the jump has a counter of its own.
        for size in (3, 5, 6):
            self.assertEqual(self.laid_behind((0, 1, 0), ("table", size, 1)), [5, 5, 6])
        # By 1, 2, 4 and 8 the go has the same one, which has gone up by it ahead of the next round.
        for size in (1, 2, 4, 8):
            self.assertEqual(self.laid_behind((0, 0, 0), ("table", size, 1)), [5, 6, 6])
        # By 7 the other zero has the same one, which has gone down.
        self.assertEqual(self.laid_behind((1, 1, 0), ("table", 7, 1)), [5, 5, 5])
        self.assertEqual(self.laid_behind((1, 1, 0), ("table", 7, 2)), [5, 5, 5])

    def test_numbers_count_from_the_front_of_the_program(self):
        # Behind five idle ones the jump, the zero and the go are at 9, 16 and 17.
        self.assertEqual(self.laid_behind((0, 0, 0), ("table", 8, 1), 5), [5, 6, 6])
        self.assertEqual(self.laid_behind((0, 0, 0), ("table", 4, 1), 5), [5, 6, 6])
        self.assertEqual(self.laid_behind((0, 0, 0), ("table", 5, 1), 5), [5, 5, 5])
        self.assertEqual(self.laid_behind((1, 1, 0), ("table", 7, 1), 5), [5, 5, 5])

    def test_what_is_thrown_away_is_not_counted(self):
        # The go at 1 is laid on behind 0, whose guess is wrong, and thrown away in the beat of its place.
        program = (("zero", 0, 2), ("go", 3), IDLE, IDLE, ("zero", 1, 6), IDLE, IDLE)
        self.assertEqual(numbers(program, ("table", 3, 1)), [0, -2, -3, 2, 3, 4, 5, 6])
        # By 4 the zero at 4 has the counter of the one at 0, which has gone up by its goal.
        self.assertEqual(numbers(program, ("table", 4, 1)), [0, -2, -3, 2, 3, 4, -7, 5, 6])


class WrongGuessersTest(unittest.TestCase):
    def test_limits(self):
        for guesser in (("row", (0,)), ("row", (60,) * 60), ("table", 1, 1), ("table", 8, 2), ("next",), ("goal",)):
            self.assertEqual(run(DESIGN, (IDLE,), START, guesser), (START, 1, 1))

    def test_no_guessers(self):
        for at, value in enumerate(NO_GUESSERS):
            for program in ((), (IDLE,), (("go", 0),)):
                with self.subTest(at):
                    self.assertRaises(BadGuesser, run, DESIGN, program, START, value)
                    self.assertRaises(BadGuesser, broken, DESIGN, program, START, value, 0)
                    self.assertRaises(BadGuesser, delayed, DESIGN, program, START, value, (0,))
                    self.assertRaises(BadGuesser, laid_on, DESIGN, program, START, value)
                    self.assertRaises(BadGuesser, on_belt, DESIGN, program, START, value, 0)
