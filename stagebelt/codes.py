"""Codes: instructions and programs as words."""

from stagebelt.errors import BadWords
from stagebelt.plain import REGISTERS
from stagebelt.programs import FORMS, MOST_INSTRUCTIONS, check_instruction, check_program, fits, is_instruction
from stagebelt.words import are_words, check_words

# The words of the instructions in the order of their numbers.
NAMES = ("idle", "set", "add", "sub", "and", "less", "mul", "load", "store", "zero", "go", "out")

NUMBER_WEIGHT = 4096
WEIGHTS = {"d": 512, "a": 64, "b": 8}


def code_of(instruction):
    """The pair of words of an instruction that is checked already."""
    one = NUMBER_WEIGHT * NAMES.index(instruction[0])
    other = 0
    for part, number in zip(FORMS[instruction[0]], instruction[1:]):
        if part in WEIGHTS:
            one += WEIGHTS[part] * number
        else:
            other = number
    return one, other


def read_code(one, other):
    """The instruction of two words, None if there is none; both are checked already."""
    number = one // NUMBER_WEIGHT
    if number >= len(NAMES):
        return None
    parts = [NAMES[number]]
    for part in FORMS[NAMES[number]]:
        parts.append(one // WEIGHTS[part] % REGISTERS if part in WEIGHTS else other)
    instruction = tuple(parts)
    # What stands in bits that the instruction does not have, its own code lacks.
    if not is_instruction(instruction) or code_of(instruction) != (one, other):
        return None
    return instruction


def code(instruction):
    """The pair of words of an instruction."""
    check_instruction(instruction)
    return code_of(instruction)


def coded(one, other):
    """The instruction of two words, None if there is none."""
    check_words(one, other)
    return read_code(one, other)


def image(program):
    """The tuple of all words of a program."""
    check_program(program)
    return tuple([number for instruction in program for number in code_of(instruction)])


def program_of(words):
    """The program of a tuple of words, None if there is none."""
    if not are_words(words, 0, 2 * MOST_INSTRUCTIONS):
        raise BadWords("no tuple of at most 120 words")
    if len(words) % 2 == 1:
        return None
    program = tuple([read_code(one, other) for one, other in zip(words[::2], words[1::2])])
    # A goal may be beyond this program though its instruction is one.
    if not all(fits(instruction, len(program)) for instruction in program):
        return None
    return program
