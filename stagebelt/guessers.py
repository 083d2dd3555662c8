"""Guessers: what is taken to come behind a jump that is laid on."""

from stagebelt.checks import is_within
from stagebelt.errors import BadGuesser
from stagebelt.programs import MOST_INSTRUCTIONS

MOST_NUMBERS = 60
MOST_COUNTERS = 8

# For each number of bits, the greatest that a counter can be.
GREATEST_COUNTS = {1: 1, 2: 3}


def are_numbers(value, most, greatest):
    """Whether a value is a tuple of 1 to so many integers from 0 to a greatest one."""
    if not isinstance(value, tuple) or not 1 <= len(value) <= most:
        return False
    return all(is_within(item, 0, greatest) for item in value)


def is_guesser(value):
    """Whether a value is a guesser."""
    if not isinstance(value, tuple) or len(value) == 0:
        return False
    if value[0] == "row":
        return len(value) == 2 and are_numbers(value[1], MOST_NUMBERS, MOST_INSTRUCTIONS)
    if value[0] == "table":
        return len(value) == 3 and is_within(value[1], 1, MOST_COUNTERS) and is_within(value[2], 1, 2)
    return value in (("next",), ("goal",))


def check_guesser(guesser):
    """Raise BadGuesser for any value that is no guesser."""
    if not is_guesser(guesser):
        raise BadGuesser("no guesser")


class Guesses:
    """What a guesser tells in the course of one run."""

    def __init__(self, guesser, many):
        self.guesser = guesser
        self.many = many
        self.jumps = 0
        self.counters = {}

    def is_goal_likely(self, number):
        """Whether the counter of an instruction of this number is in its upper half."""
        _, size, bits = self.guesser
        return self.counters.get(number % size, 0) > GREATEST_COUNTS[bits] // 2

    def guessed(self, number, goal):
        """Which instruction comes behind a jump of this number that is laid on now."""
        jumps = self.jumps
        self.jumps += 1
        if self.guesser[0] == "row":
            numbers = self.guesser[1]
            return numbers[jumps % len(numbers)] % (self.many + 1)
        if self.guesser[0] == "table" and self.is_goal_likely(number):
            return goal
        return goal if self.guesser[0] == "goal" else number + 1

    def learn(self, number, to_goal):
        """Take in that a jump of this number was decided, and whether it went to its goal."""
        if self.guesser[0] != "table":
            return
        _, size, bits = self.guesser
        count = self.counters.get(number % size, 0)
        if to_goal:
            self.counters[number % size] = min(count + 1, GREATEST_COUNTS[bits])
        else:
            self.counters[number % size] = max(count - 1, 0)
