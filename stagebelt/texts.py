"""Texts: programs and designs as lines, and back."""

from stagebelt.checks import check_text
from stagebelt.designs import are_paths, are_places, are_waits, check_design
from stagebelt.errors import InvalidText
from stagebelt.programs import FORMS, GREATEST, MOST_INSTRUCTIONS, check_program

DIGITS = "0123456789"
LETTERS = "abcdefghijklmnopqrstuvwxyz"
MOST_LETTERS = 8
REGISTER_PARTS = ("d", "a", "b")
REGISTER_NAMES = ("r0", "r1", "r2", "r3", "r4", "r5", "r6", "r7")

# The first words of the lines of a design, in their order.
DESIGN_LINES = ("read", "same", "places", "paths", "waits")

# Of all numbers in the text of a design, none has more than one digit or is beyond 7.
PLACE_DIGITS = {"0": 0, "1": 1, "2": 2, "3": 3, "4": 4, "5": 5, "6": 6, "7": 7}

# Reading is always at an earlier place than writing.
MOST_READ = 6


def part_written(part, number):
    """The text of a part of an instruction."""
    return f"r{number}" if part in REGISTER_PARTS else str(number)


def line_written(instruction):
    """The line of an instruction."""
    name, *numbers = instruction
    return " ".join([name] + [part_written(part, number) for part, number in zip(FORMS[name], numbers)])


def written(program):
    """The text of a program, a line for each instruction."""
    check_program(program)
    return "\n".join([line_written(instruction) for instruction in program])


def consists_of(text, letters):
    """Whether a text has at least one character, and each is one of some."""
    return text != "" and all(letter in letters for letter in text)


def is_number(text):
    """Whether a text has the form of a number, without a needless 0."""
    return consists_of(text, DIGITS) and (text == "0" or text[0] != "0")


def number_read(text, most):
    """The number that a text tells, None if it tells none or a greater one than most."""
    # int refuses texts of some thousand digits.
    if not is_number(text) or len(text) > len(str(most)):
        return None
    number = int(text)
    return number if number <= most else None


def are_label_letters(text):
    """Whether a text can be the letters of a label."""
    return len(text) <= MOST_LETTERS and consists_of(text, LETTERS)


def part_read(part, text):
    """The part of an instruction that a text tells, a goal as this text itself; None if it tells none."""
    if part == "goal":
        return text if is_number(text) or are_label_letters(text) else None
    if part in REGISTER_PARTS:
        return REGISTER_NAMES.index(text) if text in REGISTER_NAMES else None
    return number_read(text, GREATEST[part])


def line_read(line):
    """The instruction that a line tells, its goal as text; None if it tells none."""
    name, *texts = line.split(" ")
    if name not in FORMS or len(texts) != len(FORMS[name]):
        return None
    parts = [part_read(part, text) for part, text in zip(FORMS[name], texts)]
    return None if None in parts else (name, *parts)


def goal_read(text, labels, many):
    """The goal that a text tells in a program of so many instructions, None if it tells none."""
    return labels[text] if text in labels else number_read(text, many)


def lines_read(lines):
    """A list of pairs (number of the line, instruction with its goal as text), and a dict of the labels."""
    rows = []
    labels = {}
    for at, line in enumerate(lines, 1):
        letters = line[:-1]
        if line == "":
            continue
        if line[-1] == ":" and are_label_letters(letters) and letters not in labels:
            labels[letters] = len(rows)
            continue
        instruction = line_read(line)
        if instruction is None or len(rows) == MOST_INSTRUCTIONS:
            raise InvalidText(at)
        rows.append((at, instruction))
    return rows, labels


def assembled(text):
    """The program of a text, in which there may be labels and empty lines."""
    check_text(text)
    rows, labels = lines_read(text.split("\n"))
    program = []
    for at, instruction in rows:
        if "goal" in FORMS[instruction[0]]:
            goal = goal_read(instruction[-1], labels, len(rows))
            if goal is None:
                raise InvalidText(at)
            instruction = instruction[:-1] + (goal,)
        program.append(instruction)
    return tuple(program)


def all_joined(rows, sign):
    """The texts of the items of each tuple, with a sign between."""
    return [sign.join([str(item) for item in row]) for row in rows]


def write_design(design):
    """The text of a design, five lines."""
    check_design(design)
    read, same, places, paths, waits = design
    told = (
        [str(read)],
        ["yes" if same else "no"],
        all_joined(places, "."),
        all_joined(paths, ">"),
        all_joined(waits, ":"),
    )
    return "\n".join([" ".join([name] + texts) for name, texts in zip(DESIGN_LINES, told)])


def rows_told(texts, sign):
    """For each text the tuple of the places in it, with a sign between; None for what is no place."""
    return tuple([tuple([PLACE_DIGITS.get(item) for item in text.split(sign)]) for text in texts])


def reading_told(texts):
    """The place of reading that is told, None if it is none with which a design can begin."""
    place = PLACE_DIGITS.get(texts[0]) if len(texts) == 1 else None
    return None if place is None or place > MOST_READ else place


def same_told(texts):
    """Whether what is written is read in the same beat, None if this is not told."""
    if texts == ["yes"]:
        return True
    return False if texts == ["no"] else None


def waits_told(texts):
    """The waits that are told, None if they are none of a design."""
    parted = [text.split(":") for text in texts]
    waits = tuple([(*items[:-1], PLACE_DIGITS.get(items[-1])) for items in parted])
    return waits if are_waits(waits) else None


def part_told(line, begun):
    """What a line tells of a design behind what those ahead of it tell, None if no design goes on so."""
    name, *texts = line.split(" ")
    if name != DESIGN_LINES[len(begun)]:
        return None
    if name == "read":
        return reading_told(texts)
    if name == "same":
        return same_told(texts)
    if name == "places":
        places = rows_told(texts, ".")
        return places if are_places(places, begun[0]) else None
    if name == "paths":
        paths = rows_told(texts, ">")
        return paths if are_paths(paths) else None
    return waits_told(texts)


def read_design(text):
    """The design of a text of five lines."""
    check_text(text)
    lines = text.split("\n")
    design = ()
    for at, line in enumerate(lines, 1):
        part = part_told(line, design) if at <= len(DESIGN_LINES) else None
        if part is None:
            raise InvalidText(at)
        design += (part,)
    if len(design) < len(DESIGN_LINES):
        raise InvalidText(len(lines) + 1)
    return design
