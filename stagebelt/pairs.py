"""Instructions that meet as an entry tells, of which programs and traces are made that show something."""

# By their kinds, earlier ones whose words others use, and later ones that have their effect too early.
ACTING = {
    "set": ("set", 0, 3),
    "sum": ("add", 0, 1, 1),
    "mul": ("mul", 0, 1, 1),
    "load": ("load", 0, 2, 1),
    "store": ("store", 3, 2, 0),
    "out": ("out", 1),
}

# Earlier ones whose words may stand behind those of later ones: each writes another word than any in ACTING.
ORDERED = {"set": ("set", 0, 1), "sum": ("add", 0, 3, 3), "mul": ("mul", 0, 3, 3), "load": ("load", 0, 2, 5)}

# Two of one cell.
OF_MEMORY = {"store": ("store", 3, 2, 0), "load": ("load", 5, 2, 0)}

# By kind and role, later ones that use register 0; "zero" is missing, because its goal differs.
USING = {
    ("sum", "a"): ("add", 5, 0, 4),
    ("mul", "a"): ("mul", 5, 0, 4),
    ("load", "a"): ("load", 5, 0, 0),
    ("store", "a"): ("store", 4, 0, 0),
    ("store", "b"): ("store", 0, 3, 0),
    ("out", "a"): ("out", 0),
}

# By their kinds, those of which traces are made: none uses register 0, and those that write write it.
OF_KIND = {
    "idle": ("idle",),
    "set": ("set", 0, 0),
    "sum": ("add", 0, 1, 1),
    "mul": ("mul", 0, 1, 1),
    "load": ("load", 0, 2, 0),
    "store": ("store", 3, 2, 0),
    "zero": ("zero", 2, 0),
    "go": ("go", 0),
    "out": ("out", 1),
}


def user_of(kind, role, goal):
    """An instruction of a kind that uses register 0 in a role; it has this goal if it has one."""
    return ("zero", 0, goal) if kind == "zero" else USING[kind, role]


def pair_in_program(entry):
    """The earlier and the later instruction of the program that shows an entry."""
    rule, earlier, later = entry[:3]
    beats = entry[-1]
    if rule == "value":
        return ACTING[earlier], user_of(later, entry[3], beats + 2)
    if rule == "order":
        return ORDERED[earlier], ACTING[later]
    if rule == "memory":
        return OF_MEMORY[earlier], OF_MEMORY[later]
    jump = ("zero", 2, beats + 1) if earlier == "zero" else ("go", beats + 1)
    return jump, ACTING[later]


def pair_in_trace(entry):
    """The earlier and the later instruction of the trace for which an entry tells how many beats there are."""
    rule, earlier, later = entry[:3]
    if rule == "value":
        return OF_KIND[earlier], user_of(later, entry[3], 0)
    return OF_KIND[earlier], OF_KIND[later]
