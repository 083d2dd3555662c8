"""A desk, at which a program is run plainly, forward and back, and asked about."""

from stagebelt.belts import run
from stagebelt.checks import check_number, check_text
from stagebelt.designs import check_design
from stagebelt.errors import InvalidText, TooLong
from stagebelt.plain import MOST_DONE, carried_on, check_state
from stagebelt.programs import check_program
from stagebelt.rights import is_right, missing
from stagebelt.texts import line_written, number_read

# The first words of the lines with a number, and the greatest that it may be.
GREATEST_NUMBERS = {"forward": 1000, "back": 1000, "cell": 15}

GUESSERS = ("next", "goal")


def words_written(words):
    """The text of some words, one space between."""
    return " ".join([str(number) for number in words])


class Desk:
    """A plain run of a program, beginning with instruction 0, and a design to ask about."""

    def __init__(self, design, program, state):
        check_design(design)
        check_program(program)
        check_state(state)
        self._design = design
        self._program = program
        self._begun = state
        self._state = state
        self._next = 0
        self._done = 0

    @property
    def state(self):
        """The state behind all that is done."""
        return self._state

    @property
    def next(self):
        """The number of the next instruction, or the number of instructions at the end."""
        return self._next

    @property
    def done(self):
        """How many instructions are done."""
        return self._done

    def forward(self, many):
        """Do so many instructions, or fewer, if the program ends."""
        check_number(many, 0, MOST_DONE)
        state, following, done = carried_on(self._program, self._state, self._next, many)
        if self._done + done > MOST_DONE:
            raise TooLong(MOST_DONE)
        self._state = state
        self._next = following
        self._done += done

    def back(self, many):
        """Take so many instructions back, or all."""
        check_number(many, 0, MOST_DONE)
        left = max(self._done - many, 0)
        self._state, self._next, self._done = carried_on(self._program, self._begun, 0, left)

    def redesign(self, design):
        """Take another design."""
        check_design(design)
        self._design = design

    def next_line(self):
        """The text of the next instruction, "end" at the end."""
        if self._next == len(self._program):
            return "end"
        return line_written(self._program[self._next])

    def told(self, name):
        """What a line of one word asks for."""
        if name == "next":
            return self.next_line()
        if name == "regs":
            return words_written(self._state[0])
        if name == "shown":
            return words_written(self._state[2])
        if name == "right":
            return "yes" if is_right(self._design) else "no"
        if name == "missing":
            return str(len(missing(self._design)))
        raise InvalidText(1)

    def done_with(self, name, number):
        """Do or tell what a line with a number asks for."""
        if name == "cell":
            return str(self._state[1][number])
        if name == "forward":
            self.forward(number)
        else:
            self.back(number)
        return None

    def beats_told(self, name):
        """The beats of a run of the whole program, with the guesser of this word."""
        _, _, beats = run(self._design, self._program, self._begun, (name,))
        return str(beats)

    def run(self, line):
        """Do what a line tells, or tell what it asks for."""
        check_text(line)
        name, *rest = line.split(" ")
        if len(rest) == 0:
            return self.told(name)
        if len(rest) == 1 and name in GREATEST_NUMBERS:
            number = number_read(rest[0], GREATEST_NUMBERS[name])
            if number is not None:
                return self.done_with(name, number)
        if len(rest) == 1 and name == "beats" and rest[0] in GUESSERS:
            return self.beats_told(rest[0])
        raise InvalidText(1)
