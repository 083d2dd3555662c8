"""The plain machine: programs run one instruction after another."""

from stagebelt.checks import check_number
from stagebelt.errors import BadState, TooLong
from stagebelt.programs import check_program, part_of
from stagebelt.words import are_words, computed

REGISTERS = 8
CELLS = 16
MOST_SHOWN = 1000
MOST_DONE = 1000


def is_state(value):
    """Whether a value is a state with at most 1000 words shown."""
    if not isinstance(value, tuple) or len(value) != 3:
        return False
    registers, cells, shown = value
    return (are_words(registers, REGISTERS, REGISTERS)
            and are_words(cells, CELLS, CELLS)
            and are_words(shown, 0, MOST_SHOWN))


def check_state(state):
    """Raise BadState for any value that is no state."""
    if not is_state(state):
        raise BadState("no state")


def used_word(instruction, part, registers):
    """The word of the register that stands as this part of an instruction, None if it has none."""
    at = part_of(instruction, part)
    return None if at is None else registers[at]


def cell_told(instruction, one):
    """The number of the cell that a load or a store is about, one being the word of its register a."""
    return (one + part_of(instruction, "cell")) % CELLS


def made_of(instruction, one, other, cells):
    """The word that an instruction writes into its register, made of the words of its registers a and b."""
    name = instruction[0]
    if name == "set":
        return part_of(instruction, "word")
    if name == "load":
        return cells[cell_told(instruction, one)]
    return computed(name, one, other)


def goes_to_goal(instruction, one):
    """Whether the goal of an instruction is next, one being the word of its register a."""
    return instruction[0] == "go" or (instruction[0] == "zero" and one == 0)


def replaced(words, at, new):
    """A tuple of words with a new one at a place."""
    return words[:at] + (new,) + words[at + 1:]


def effect(instruction, state):
    """The state behind an instruction."""
    registers, cells, shown = state
    one = used_word(instruction, "a", registers)
    other = used_word(instruction, "b", registers)
    target = part_of(instruction, "d")
    if target is not None:
        return replaced(registers, target, made_of(instruction, one, other, cells)), cells, shown
    if instruction[0] == "store":
        return registers, replaced(cells, cell_told(instruction, one), other), shown
    if instruction[0] == "out":
        return registers, cells, shown + (one,)
    return state


def behind(program, state, at):
    """The pair (state, next) behind instruction at; the arguments are checked already."""
    instruction = program[at]
    if goes_to_goal(instruction, used_word(instruction, "a", state[0])):
        return state, part_of(instruction, "goal")
    return effect(instruction, state), at + 1


def carried_on(program, state, at, most):
    """(state, next, done) behind so many instructions from instruction at on, or where it ends."""
    done = 0
    while done < most and at < len(program):
        state, at = behind(program, state, at)
        done += 1
    return state, at, done


def stepped(program, state, at):
    """The pair (state, next) behind instruction at."""
    check_program(program)
    check_state(state)
    check_number(at, 0, len(program) - 1)
    return behind(program, state, at)


def ran(program, state, most):
    """(state, next, done) behind so many instructions, or fewer, if the program ends."""
    check_program(program)
    check_state(state)
    check_number(most, 0, MOST_DONE)
    return carried_on(program, state, 0, most)


def ended(program, state):
    """The pair (state, done) where the program ends."""
    check_program(program)
    check_state(state)
    state, at, done = carried_on(program, state, 0, MOST_DONE)
    if at < len(program):
        raise TooLong(MOST_DONE)
    return state, done
