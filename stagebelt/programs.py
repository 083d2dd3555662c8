"""Instructions and programs: which values are such, and what an instruction writes and uses."""

from stagebelt.checks import is_within
from stagebelt.errors import BadInstruction, BadProgram

MOST_INSTRUCTIONS = 60

# For each instruction's word, what stands behind it, in order: the registers d, a and b by
# their letters, n as "word" or as "cell", because its limits differ, and t as "goal".
FORMS = {
    "idle": (),
    "set": ("d", "word"),
    "add": ("d", "a", "b"),
    "sub": ("d", "a", "b"),
    "and": ("d", "a", "b"),
    "less": ("d", "a", "b"),
    "mul": ("d", "a", "b"),
    "load": ("d", "a", "cell"),
    "store": ("b", "a", "cell"),
    "zero": ("a", "goal"),
    "go": ("goal",),
    "out": ("a",),
}

GREATEST = {"d": 7, "a": 7, "b": 7, "word": 65535, "cell": 15}

SUMS = ("add", "sub", "and", "less")


def greatest(part, last_goal):
    """The greatest number that may stand as a part of an instruction."""
    return last_goal if part == "goal" else GREATEST[part]


def fits(value, last_goal):
    """Whether a value is an instruction with a goal, if it has one, from 0 to last_goal."""
    if not isinstance(value, tuple) or len(value) == 0:
        return False
    # A list or a dict cannot be looked up in a dict, so only strings are.
    if not isinstance(value[0], str) or value[0] not in FORMS:
        return False
    parts = FORMS[value[0]]
    if len(value) != 1 + len(parts):
        return False
    for part, number in zip(parts, value[1:]):
        if not is_within(number, 0, greatest(part, last_goal)):
            return False
    return True


def is_instruction(value):
    """Whether a value is an instruction with a goal, if it has one, from 0 to 60."""
    return fits(value, MOST_INSTRUCTIONS)


def check_instruction(instruction):
    """Raise BadInstruction for any value that is no instruction."""
    if not is_instruction(instruction):
        raise BadInstruction("no instruction")


def check_program(program):
    """Raise BadProgram for any value that is no program."""
    if not isinstance(program, tuple) or len(program) > MOST_INSTRUCTIONS:
        raise BadProgram(None)
    for index, item in enumerate(program):
        if not fits(item, len(program)):
            raise BadProgram(index)


def part_of(instruction, part):
    """The number that stands as this part of an instruction, None if it has no such part."""
    parts = FORMS[instruction[0]]
    if part not in parts:
        return None
    return instruction[1 + parts.index(part)]


def kind_of(instruction):
    """The kind of an instruction: its word, but "sum" for add, sub, and, less."""
    check_instruction(instruction)
    return "sum" if instruction[0] in SUMS else instruction[0]


def written_by(instruction):
    """The register that an instruction writes, None if it writes none."""
    check_instruction(instruction)
    return part_of(instruction, "d")


def used_by(instruction):
    """The tuple of the pairs (role, register) of what an instruction uses."""
    check_instruction(instruction)
    one = part_of(instruction, "a")
    other = part_of(instruction, "b")
    if one is None:
        return ()
    if other is None:
        return (("a", one),)
    role = "b" if instruction[0] == "store" else "a"
    return (("a", one), (role, other))
