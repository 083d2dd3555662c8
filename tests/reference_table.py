"""The table of the document's part three, written straight from it: which entries are open in a design, and
a program for each one that is missing. By it, runs on the belt are compared with the plain machine."""

from tests.reference_belt import ENTRIES, WORDS

ENDS = {"set": "written", "sum": "written", "mul": "written", "load": "written", "store": "put", "out": "shown"}
REGISTERS = (0, 2, 0, 5, 6, 0, 0, 0)
CELLS = (7, 3, 9, 8, 1, 2, 11, 12, 13, 14, 15, 16, 17, 18, 19, 20)


def reference_places(design):
    """For each kind the dict of its places, "made" and "effect" among them where it has such."""
    found = {}
    for (kind, words), row in zip(WORDS.items(), design[2]):
        found[kind] = dict(zip(words, row))
        if kind == "load":
            found[kind]["made"] = found[kind]["fetched"]
        if kind in ENDS:
            found[kind]["effect"] = found[kind][ENDS[kind]]
    return found


def reference_is_open(design, entry):
    read, same, _, paths, _ = design
    where = reference_places(design)
    rule, earlier, later, *role, d = entry
    one, other = where[earlier], where[later]
    if rule == "value":
        u = other["used " + role[0]] if later == "store" else other["used"]
        behind = read + d > one["written"] or (read + d == one["written"] and same)
        handed = (u + d, u) in paths and u + d > one["made"]
        return not behind and not handed
    if rule == "order":
        return d + other["written"] < one["written"]
    if rule == "wrong":
        return d + other["effect"] <= one["decided"]
    if earlier == "store":
        fetched = other["fetched"] + d
        return not (fetched > one["put"] or (fetched == one["put"] and same))
    put = d + other["put"]
    return put < one["fetched"] or (put == one["fetched"] and same)


def reference_open(design):
    return [entry for entry in ENTRIES if reference_is_open(design, entry)]


def reference_missing(design):
    waits = design[4]
    return [entry for entry in reference_open(design) if entry not in waits and not (
        entry[:3] == ("value", "load", "store") and ("memory", "load", "store", entry[4]) in waits)]


def made_right(design):
    """The design with its open entries among the waits, too."""
    return design[:4] + (tuple(sorted(set(design[4]) | set(reference_open(design)))),)


EARLIER = {"set": ("set", 0, 3), "sum": ("add", 0, 1, 1), "mul": ("mul", 0, 1, 1), "load": ("load", 0, 2, 1)}
ORDERED = {"set": ("set", 0, 1), "sum": ("add", 0, 3, 3), "mul": ("mul", 0, 3, 3), "load": ("load", 0, 2, 5)}
USING = {"sum": ("add", 5, 0, 4), "mul": ("mul", 5, 0, 4), "load": ("load", 5, 0, 0), "store": ("store", 4, 0, 0),
         "out": ("out", 0)}
MEMORY = {"store": ("store", 3, 2, 0), "load": ("load", 5, 2, 0)}


def reference_pair(entry):
    """The earlier and the later instruction of the program that shows an entry."""
    rule, earlier, later, *role, d = entry
    if rule == "value":
        using = ("store", 0, 3, 0) if role == ["b"] else {**USING, "zero": ("zero", 0, d + 2)}[later]
        return EARLIER[earlier], using
    if rule == "order":
        return ORDERED[earlier], EARLIER[later]
    if rule == "memory":
        return MEMORY[earlier], MEMORY[later]
    jump = {"zero": ("zero", 2, d + 1), "go": ("go", d + 1)}[earlier]
    return jump, {**EARLIER, "store": MEMORY["store"], "out": ("out", 1)}[later]


def reference_shown(entry):
    """(program, state, guesser) that shows a missing entry."""
    rule, _, later, *_, d = entry
    one, other = reference_pair(entry)
    program = (one,) + (("idle",),) * (d - 1) + (other,)
    guesser = ("row", (1,)) if rule == "wrong" else ("next",)
    if later == "zero":
        program += (("set", 6, 9),)
        guesser = ("row", (d + 2,))
    return program, (REGISTERS, CELLS, ()), guesser
