"""Designs of a belt: at which place each kind does what, what is handed on ahead, and which pairs wait."""

from stagebelt.checks import is_within
from stagebelt.errors import BadDesign, BadEntry, BadKind, BadPaths, BadWaits

LAST_PLACE = 7
MOST_APART = 7

# For each kind but idle, which has none, the words of its places in the order in which a design has them.
PLACES = {
    "set": ("made", "written"),
    "sum": ("used", "made", "written"),
    "mul": ("used", "made", "written"),
    "load": ("used", "fetched", "written"),
    "store": ("used a", "used b", "put"),
    "zero": ("used", "decided"),
    "go": ("decided",),
    "out": ("used", "shown"),
}

KINDS = ("idle", "set", "sum", "mul", "load", "store", "zero", "go", "out")

# The kinds in the order in which a design has their places.
KINDS_OF_DESIGN = ("set", "sum", "mul", "load", "store", "zero", "go", "out")

EFFECTS = ("written", "put", "shown")

WRITING = ("set", "sum", "mul", "load")
JUMPS = ("zero", "go")
USES = (("sum", "a"), ("mul", "a"), ("load", "a"), ("store", "a"), ("store", "b"), ("zero", "a"), ("out", "a"))
MEMORY = (("store", "load"), ("load", "store"))
WITH_EFFECT = ("set", "sum", "mul", "load", "store", "out")


def are_ascending(items):
    """Whether the items of a tuple, which can be compared, are ascending and unlike."""
    return all(one < other for one, other in zip(items, items[1:]))


def is_place(value):
    """Whether a value is a place."""
    return is_within(value, 0, LAST_PLACE)


def is_row(value, many):
    """Whether a value is a tuple of so many places."""
    if not isinstance(value, tuple) or len(value) != many:
        return False
    return all(is_place(item) for item in value)


def in_order(kind, row, read):
    """Whether the places of a kind let all that it does come in an order in which it can be done."""
    if kind == "go":
        return True
    if kind == "set":
        made, written = row
        return made < written and read < written
    if kind == "store":
        used_a, used_b, put = row
        return read <= used_a < put and read <= used_b < put
    if kind in ("zero", "out"):
        used, last = row
        return read <= used <= last
    used, made, written = row
    return read <= used <= made < written


def are_places(value, read):
    """Whether a value can be the places of a design with this place of reading."""
    if not isinstance(value, tuple) or len(value) != len(KINDS_OF_DESIGN):
        return False
    for kind, row in zip(KINDS_OF_DESIGN, value):
        if not is_row(row, len(PLACES[kind])) or not in_order(kind, row, read):
            return False
    return True


def is_path(value):
    """Whether a value is a pair of places, the second less than the first."""
    return is_row(value, 2) and value[1] < value[0]


def are_paths(value):
    """Whether a value can be the paths of a design."""
    if not isinstance(value, tuple):
        return False
    return all(is_path(item) for item in value) and are_ascending(value)


def are_waits(value):
    """Whether a value can be the waits of a design."""
    if not isinstance(value, tuple):
        return False
    return all(is_entry(item) for item in value) and are_ascending(value)


def is_design(value):
    """Whether a value is a design."""
    if not isinstance(value, tuple) or len(value) != 5:
        return False
    read, same, places, paths, waits = value
    return (is_place(read) and isinstance(same, bool) and are_places(places, read)
            and are_paths(paths) and are_waits(waits))


def check_design(design):
    """Raise BadDesign for any value that is no design."""
    if not is_design(design):
        raise BadDesign("no design")


def is_pair_told(words):
    """Whether a tuple is an entry without its beats."""
    if len(words) == 4:
        return words[0] == "value" and words[1] in WRITING and words[2:] in USES
    if len(words) != 3:
        return False
    rule, earlier, later = words
    if rule == "order":
        return earlier in WRITING and later in WRITING
    if rule == "memory":
        return (earlier, later) in MEMORY
    return rule == "wrong" and earlier in JUMPS and later in WITH_EFFECT


def is_entry(value):
    """Whether a value is an entry."""
    if not isinstance(value, tuple) or len(value) == 0:
        return False
    if not is_within(value[-1], 1, MOST_APART):
        return False
    return is_pair_told(value[:-1])


def check_entry(entry):
    """Raise BadEntry for any value that is no entry."""
    if not is_entry(entry):
        raise BadEntry("no entry")


def all_entries():
    """The ascending tuple of all entries."""
    told = [("value", earlier) + use for earlier in WRITING for use in USES]
    told.extend([("order", earlier, later) for earlier in WRITING for later in WRITING])
    told.extend([("memory",) + pair for pair in MEMORY])
    told.extend([("wrong", jump, later) for jump in JUMPS for later in WITH_EFFECT])
    return tuple(sorted([words + (beats,) for words in told for beats in range(1, MOST_APART + 1)]))


def places_of_kinds(design):
    """For each kind, the dict of its places by their words; the design is checked already."""
    found = {kind: dict(zip(PLACES[kind], row)) for kind, row in zip(KINDS_OF_DESIGN, design[2])}
    found["idle"] = {}
    found["load"]["made"] = found["load"]["fetched"]
    return found


def use_place_among(places, role):
    """Where a kind with these places uses a register in a role."""
    if "used" in places:
        return places["used"]
    return places["used " + role]


def effect_place_among(places):
    """Where a kind with these places has its effect, None if it has none."""
    for word in EFFECTS:
        if word in places:
            return places[word]
    return None


def last_place_among(places):
    """The last place at which a kind with these places does something, 0 if it does nothing."""
    found = effect_place_among(places)
    return places.get("decided", 0) if found is None else found


def check_kind(kind):
    """Raise BadKind for any value that is no kind."""
    if kind not in KINDS:
        raise BadKind("no kind")


def place_of(design, kind, what):
    """The place of a word for a kind; "made" is for load where it fetched."""
    check_design(design)
    check_kind(kind)
    places = places_of_kinds(design)[kind]
    if not isinstance(what, str) or what not in places:
        raise BadKind("no place of this kind")
    return places[what]


def effect_place(design, kind):
    """Where a kind has its effect, None for idle, zero and go."""
    check_design(design)
    check_kind(kind)
    return effect_place_among(places_of_kinds(design)[kind])


def last_place(design, kind):
    """The place of the effect, of the decision for zero and go, 0 for idle."""
    check_design(design)
    check_kind(kind)
    return last_place_among(places_of_kinds(design)[kind])


def with_waits(design, waits):
    """The design with other waits."""
    check_design(design)
    if not are_waits(waits):
        raise BadWaits("no waits of a design")
    return design[:4] + (waits,)


def with_paths(design, paths):
    """The design with other paths."""
    check_design(design)
    if not are_paths(paths):
        raise BadPaths("no paths of a design")
    return design[:3] + (paths,) + design[4:]
