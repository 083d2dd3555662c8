"""A second plain machine, written straight from the document, to compare with."""


def reference_step(program, state, at):
    """(state, next) behind instruction at, by lists and one long choice."""
    registers, cells, shown = [list(part) for part in state]
    name, *parts = program[at]
    following = at + 1
    if name == "set":
        registers[parts[0]] = parts[1]
    elif name in ("add", "sub", "and", "less", "mul"):
        one, other = registers[parts[1]], registers[parts[2]]
        registers[parts[0]] = {
            "add": one + other, "sub": one - other, "and": one & other,
            "less": int(one < other), "mul": one * other,
        }[name] % 65536
    elif name == "load":
        registers[parts[0]] = cells[(registers[parts[1]] + parts[2]) % 16]
    elif name == "store":
        cells[(registers[parts[1]] + parts[2]) % 16] = registers[parts[0]]
    elif name == "zero":
        following = parts[1] if registers[parts[0]] == 0 else following
    elif name == "go":
        following = parts[0]
    elif name == "out":
        shown.append(registers[parts[0]])
    return (tuple(registers), tuple(cells), tuple(shown)), following


def reference_run(program, state, most):
    """(state, next, done) behind at most so many instructions."""
    at = done = 0
    while done < most and at != len(program):
        state, at = reference_step(program, state, at)
        done += 1
    return state, at, done


PARTS = {
    "idle": "", "set": "rw", "add": "rrr", "sub": "rrr", "and": "rrr", "less": "rrr", "mul": "rrr",
    "load": "rrc", "store": "rrc", "zero": "rg", "go": "g", "out": "r",
}


def random_word(source):
    return source.choice((0, 1, 2, 15, 255, 256, 65535, source.randrange(65536)))


def random_instruction(source, size):
    """Any instruction of a program of this size; source is a random.Random."""
    name = source.choice(sorted(PARTS))
    made = {"r": lambda: source.randrange(8), "c": lambda: source.randrange(16),
            "g": lambda: source.randrange(size + 1), "w": lambda: random_word(source)}
    return (name,) + tuple(made[part]() for part in PARTS[name])


def random_program(source):
    size = source.randrange(61)
    return tuple(random_instruction(source, size) for _ in range(size))


def random_state(source):
    return tuple(tuple(random_word(source) for _ in range(size)) for size in (8, 16, source.randrange(4)))
