"""Which designs are right: the open entries, those of them that are missing, and programs that show these."""

from stagebelt.belts import run
from stagebelt.designs import LAST_PLACE, all_entries, are_ascending, check_design, check_entry, effect_place_among
from stagebelt.designs import is_entry, is_path, places_of_kinds, use_place_among
from stagebelt.errors import BadEntries, BadPath, NotMade, TooLong
from stagebelt.pairs import pair_in_program
from stagebelt.plain import ended

# The state from which the programs that show an entry are run.
SHOWING_STATE = (
    (0, 2, 0, 5, 6, 0, 0, 0),
    (7, 3, 9, 8, 1, 2, 11, 12, 13, 14, 15, 16, 17, 18, 19, 20),
    (),
)


def sees(at, written, same):
    """Whether what looks in one beat finds what was written in another one."""
    return at > written or (at == written and same)


def path_sparing(places, entry):
    """The path that spares a "value" entry, None if none does."""
    _, earlier, later, role, beats = entry
    used = use_place_among(places[later], role)
    handed = used + beats
    if handed > LAST_PLACE or handed <= places[earlier]["made"]:
        return None
    return handed, used


def is_open_among(design, places, entry):
    """Whether an entry is open in a design that has these places of the kinds."""
    read, same, _, paths, _ = design
    rule, earlier, later = entry[:3]
    beats = entry[-1]
    one = places[earlier]
    other = places[later]
    if rule == "value":
        return not sees(read + beats, one["written"], same) and path_sparing(places, entry) not in paths
    if rule == "order":
        return beats + other["written"] < one["written"]
    if rule == "wrong":
        return beats + effect_place_among(other) <= one["decided"]
    if earlier == "store":
        return not sees(other["fetched"] + beats, one["put"], same)
    return sees(one["fetched"], other["put"] + beats, same)


def open_in(design):
    """The ascending list of the open entries of a design that is checked already."""
    places = places_of_kinds(design)
    return [entry for entry in all_entries() if is_open_among(design, places, entry)]


def is_held_by_memory(entry, entries):
    """Whether one of some entries makes a store wait for a load as this one would."""
    # Any store behind any load waits by it, also one that uses what the load writes.
    return entry[:3] == ("value", "load", "store") and ("memory", "load", "store", entry[-1]) in entries


def is_open(design, entry):
    """Whether an entry is open in a design."""
    check_design(design)
    check_entry(entry)
    return is_open_among(design, places_of_kinds(design), entry)


def open_entries(design):
    """The ascending tuple of all open entries."""
    check_design(design)
    return tuple(open_in(design))


def missing(design):
    """The ascending tuple of the open entries that are not held."""
    check_design(design)
    waits = {entry: True for entry in design[4]}
    return tuple([
        entry for entry in open_in(design) if entry not in waits and not is_held_by_memory(entry, waits)])


def is_right(design):
    """Whether no entry is missing, so that each program is run as the plain machine runs it."""
    return missing(design) == ()


def shows(design, program, state, guesser):
    """Whether a run shows that a design is wrong."""
    try:
        belt_state, belt_done, _ = run(design, program, state, guesser)
        plain_state, plain_done = ended(program, state)
    except TooLong:
        return False
    return belt_state != plain_state or belt_done != plain_done


def showing(entry):
    """The triple (program, state, guesser) that shows an entry where it is missing."""
    rule, _, later = entry[:3]
    beats = entry[-1]
    one, other = pair_in_program(entry)
    program = (one,) + (("idle",),) * (beats - 1) + (other,)
    guesser = ("row", (1,)) if rule == "wrong" else ("next",)
    if later == "zero":
        # The guess is the end, to which only a zero that takes the old word goes.
        program += (("set", 6, 9),)
        guesser = ("row", (beats + 2,))
    return program, SHOWING_STATE, guesser


def shown(design, entry):
    """The triple (program, state, guesser) that shows a missing entry."""
    check_design(design)
    check_entry(entry)
    if entry not in missing(design):
        raise NotMade("the entry is not missing")
    return showing(entry)


def first_shown(design):
    """What shows the least missing entry, None if the design is right."""
    entries = missing(design)
    return None if entries == () else showing(entries[0])


def least_waits(design):
    """The ascending tuple of the least waits with which a design is right."""
    check_design(design)
    entries = open_in(design)
    found = {entry: True for entry in entries}
    return tuple([entry for entry in entries if not is_held_by_memory(entry, found)])


def spared_by(design, path):
    """The ascending tuple of the entries that are open and no longer are with one more path."""
    check_design(design)
    if not is_path(path):
        raise BadPath("no path of a design")
    paths = tuple(sorted(set(design[3] + (path,))))
    still = {entry: True for entry in open_in(design[:3] + (paths,) + design[4:])}
    return tuple([entry for entry in open_in(design) if entry not in still])


def are_value_entries(value):
    """Whether a value is an ascending tuple of unlike "value" entries."""
    if not isinstance(value, tuple):
        return False
    return all(is_entry(item) and item[0] == "value" for item in value) and are_ascending(value)


def paths_for(design, entries):
    """The ascending tuple of the paths that spare those of some entries that are open."""
    check_design(design)
    if not are_value_entries(entries):
        raise BadEntries("no ascending tuple of unlike value entries")
    places = places_of_kinds(design)
    wanted = [entry for entry in entries if is_open_among(design, places, entry)]
    paths = [path_sparing(places, entry) for entry in wanted]
    if None in paths:
        raise NotMade("no path spares one of the entries")
    return tuple(sorted(set(paths)))
