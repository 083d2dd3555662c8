"""Values that several tests share."""

from stagebelt.errors import BeltError

START = ((0, 2, 0, 5, 6, 65535, 256, 1), (7, 3, 9, 8, 1, 2, 11, 12, 13, 14, 15, 16, 17, 18, 19, 65535), ())

# Values of all kinds that a caller may pass and that are no integers.
NO_INTEGERS = (
    True, False, None, "", "1", "add", (), (1,), [], [1], {}, {1: 1}, {"a": [1]}, ([],), ({},),
    [(0,)], BeltError("5"),
)

NO_WORDS = NO_INTEGERS + (-1, 65536, 65537, -65536, 10 ** 5000, -10 ** 5000)

# One instruction of each word, with unlike parts.
ONE_OF_EACH = (
    ("idle",), ("set", 1, 300), ("add", 1, 2, 3), ("sub", 2, 3, 4), ("and", 3, 4, 5),
    ("less", 4, 5, 6), ("mul", 5, 6, 7), ("load", 6, 7, 9), ("store", 7, 1, 8), ("zero", 2, 1),
    ("go", 3), ("out", 4),
)

# Values that are no instruction in any program.
NO_INSTRUCTIONS = NO_INTEGERS + (
    0, 1, -1, 60,
    # no word of an instruction, or none at the front
    ("",), ("nop",), ("Idle",), ("idle ",), ("sum", 1, 2, 3), ("SET", 1, 2), (1, "set", 2),
    (0,), (None,), (True,), (["idle"],), ({"idle": 1},), (("idle",),), ([],), ({},), ("set1", 2),
    # too few or too many parts
    ("idle", 0), ("idle", None), ("set",), ("set", 1), ("set", 1, 2, 3), ("add", 1, 2), ("sub", 1, 2, 3, 4),
    ("and",), ("less", 1, 2), ("mul", 1, 2), ("load", 1, 2), ("load", 1, 2, 3, 4), ("store", 1, 2),
    ("store", 1, 2, 3, 4), ("zero", 1), ("zero", 1, 2, 3), ("go",), ("go", 1, 2), ("out",), ("out", 1, 2),
    # lists and strings in place of tuples
    ["idle"], ["set", 1, 2], ["add", 1, 2, 3], "idle", "go", {"go": 1},
)


def with_part(instruction, at, new):
    """An instruction with another item at a place."""
    return instruction[:at] + (new,) + instruction[at + 1:]

NO_PROGRAMS = (
    True, False, None, 0, 5, "", "idle", [], [("idle",)], {}, {0: ("idle",)},
    (("idle",),) * 61, ("wrong",) * 61, (("idle",),) * 1000,
)

NO_STATES = (
    True, False, None, 0, 8, "", "state", [], {}, (), (START[0],), (START[0], START[1]), START + ((),),
    START + (None,), list(START), ([0] * 8, START[1], ()), (START[0], [0] * 16, ()), (START[0], START[1], []),
    (START[0][:7], START[1], ()), (START[0] + (0,), START[1], ()), ((), START[1], ()),
    (START[0], START[1][:15], ()), (START[0], START[1] + (0,), ()), (START[0], (), ()),
    (START[0], START[1], (0,) * 1001), (START[0], START[1], None), (START[0], START[1], 0), (START[0], START[1], ""),
    (None, START[1], ()), (START[0], None, ()), ("00000000", START[1], ()), (START[1], START[0], ()),
    ({k: 0 for k in range(8)}, START[1], ()), (8, 16, 0),
)

# The design of the document's examples.
DESIGN = (
    1, True,
    ((1, 4), (2, 2, 4), (2, 2, 4), (2, 3, 4), (2, 2, 3), (2, 2), (1,), (2, 2)),
    ((3, 2), (4, 2)), (),
)

# Every place as early as can be, and as late as can be.
EARLIEST = (0, False, ((0, 1), (0, 0, 1), (0, 0, 1), (0, 0, 1), (0, 0, 1), (0, 0), (0,), (0, 0)), (), ())
LATEST = (6, True, ((6, 7), (6, 6, 7), (6, 6, 7), (6, 6, 7), (6, 6, 7), (7, 7), (7,), (7, 7)), (), ())

NO_TUPLES = NO_INTEGERS[:6] + (0, 7, [], [(1, 2)], {}, {1: 1}, BeltError("5"))

NO_PATHS = NO_TUPLES + (
    (None,), (1,), ((),), ((1,),), ((2, 1, 0),), ([2, 1],), ("21",), ((2, 2),), ((1, 2),), ((0, 0),), ((8, 0),),
    ((1, -1),), ((True, 0),), ((2, True),), ((1, False),), ((2, None),), ((2, "1"),), ((2, [1]),),
    ((3, 2), (3, 2)), ((4, 2), (3, 2)), ((3, 2), (3, 1)), ((3, 2), None), ((3, 2), (2, 3)), (3, 2),
)

NO_ENTRIES = NO_TUPLES + (
    (), (1,), (None,), ("value",), ("order", 1), ("order", "set", 1), ("order", "set", "set"), "order",
    ["order", "set", "set", 1], {"order": 1},
    # beats from 1 to 7
    ("order", "set", "set", 0), ("order", "set", "set", 8), ("order", "set", "set", -1),
    ("order", "set", "set", True), ("order", "set", "set", None), ("order", "set", "set", "1"),
    ("order", "set", "set", [1]), ("value", "set", "sum", "a", True), ("value", "set", "sum", "a", 0),
    ("value", "set", "sum", "a", 8), ("memory", "load", "store", 8), ("wrong", "go", "set", 0),
    # rules, kinds and roles
    ("values", "set", "sum", "a", 1), ("", "set", "set", 1), ("Order", "set", "set", 1),
    ("order", "add", "set", 1), ("order", "set", "add", 1), ("order", "store", "set", 1),
    ("order", "set", "store", 1), ("order", "out", "out", 1), ("order", "idle", "set", 1),
    ("value", "set", "set", "a", 1), ("value", "set", "go", "a", 1), ("value", "set", "idle", "a", 1),
    ("value", "store", "sum", "a", 1), ("value", "zero", "sum", "a", 1), ("value", "set", "sum", "b", 1),
    ("value", "set", "load", "b", 1), ("value", "set", "zero", "b", 1), ("value", "set", "out", "b", 1),
    ("value", "set", "store", "c", 1), ("value", "set", "sum", 1), ("order", "set", "set", "a", 1),
    ("memory", "load", "load", 1), ("memory", "store", "store", 1), ("memory", "load", "store", "a", 1),
    ("memory", "store", "out", 1), ("wrong", "zero", "zero", 1), ("wrong", "zero", "go", 1),
    ("wrong", "go", "idle", 1), ("wrong", "set", "set", 1), ("wrong", "out", "out", 1),
    ("wrong", "zero", "set", "a", 1), (["order"], "set", "set", 1), ("order", ["set"], "set", 1),
    ("order", "set", {}, 1), ("order", None, "set", 1), ("value", "set", "sum", ["a"], 1), (1, 2, 3, 4),
)

ENTRY = ("order", "set", "set", 1)

NO_WAITS = NO_TUPLES + tuple((item,) for item in NO_ENTRIES) + (
    ENTRY, (ENTRY, ENTRY), (("order", "set", "set", 2), ENTRY), (("wrong", "go", "out", 1), ENTRY),
    (ENTRY, ("order", "set", "mul", 1)), (ENTRY, None), (ENTRY, ("value",)), (ENTRY, list(ENTRY)),
)

NO_DESIGNS = NO_TUPLES + (
    (), DESIGN[:4], DESIGN + ((),), list(DESIGN), DESIGN[2], (None,) * 5, "12345",
) + tuple(with_part(DESIGN, 0, value) for value in NO_INTEGERS + (-1, 3, 7, 8, 10 ** 5000)) + tuple(
    with_part(DESIGN, 1, value) for value in (0, 1, None, "yes", "True", (), [], ([],))) + tuple(
    with_part(DESIGN, 2, value) for value in NO_TUPLES + (
        (), DESIGN[2][:7], DESIGN[2] + ((1,),), list(DESIGN[2]), (None,) * 8, (1,) * 8, DESIGN[2][::-1])) + tuple(
    with_part(DESIGN, 3, value) for value in NO_PATHS) + tuple(with_part(DESIGN, 4, value) for value in NO_WAITS)

NO_GUESSERS = NO_TUPLES + (
    (), "next", "goal", ["next"], (None,), (0,), ("Next",), ("",), ("next", None), ("next", ()), ("goal", 1),
    (["next"],), ("row",), ("row", ()), ("row", [1]), ("row", 1), ("row", None), ("row", "1"), ("row", (1,), 1),
    ("row", (61,)), ("row", (-1,)), ("row", (1, 2, 61)), ("row", (True,)), ("row", (1, False)), ("row", (None,)),
    ("row", ("1",)), ("row", ((1,),)), ("row", ([],)), ("row", (1,) * 61), ("table",), ("table", 1),
    ("table", 1, 1, 1), ("table", 0, 1), ("table", 9, 1), ("table", 1, 0), ("table", 1, 3), ("table", True, 1),
    ("table", 1, True), ("table", None, 1), ("table", 1, None), ("table", "1", 1), ("table", (1,), 1),
    ("table", -1, 2), ("table", 4, -2), ("table", [1], 1), {"next": 1}, ("next", "next"),
)

# The entries that are missing in the sample design, which are its least waits.
LEAST = tuple(("value", "load") + use + (1,) for use in (
    ("load", "a"), ("mul", "a"), ("out", "a"), ("store", "a"), ("store", "b"), ("sum", "a"), ("zero", "a")))

# The sample design made right; it has no holes.
RIGHT = with_part(DESIGN, 4, LEAST)

# The sample design without paths, made right; and a right one with holes.
PATHLESS = DESIGN[:3] + ((), tuple(sorted(
    [("value", kind) + use[2:4] + (d,) for kind in ("load", "mul", "set", "sum") for use in LEAST for d in (1, 2)])))
WITH_HOLES = with_part(RIGHT, 4, LEAST + (("wrong", "go", "out", 2),))

BODY = (("load", 1, 0, 0), ("add", 2, 1, 1), ("store", 2, 0, 1))

NO_BODIES = NO_TUPLES + (
    (), BODY * 3, (("idle",),) * 7, list(BODY), "idle", ("idle",), ("idle", "idle"), (BODY,), BODY[0],
    (("go", 0),), (("zero", 1, 0),), (("idle",), ("go", 1)), BODY + (("zero", 1, 0),), BODY + (None,),
) + tuple((("idle",), value) for value in NO_INSTRUCTIONS) + tuple((value, ("idle",)) for value in NO_INSTRUCTIONS)

NO_STEPS = NO_TUPLES + (
    (), (True,), (("idle",),), (("idle",), True, True), [("idle",), True], ("idle", True), (True, ("idle",)),
    (("idle",), False), (("set", 1, 2), False), (("out", 1), False), (("store", 1, 1, 1), False),
    (("load", 1, 1, 1), False), (("add", 1, 1, 1), False), (("mul", 1, 1, 1), False),
) + tuple((("idle",), value) for value in NO_TUPLES if value is not True) + tuple(
    (("go", 1), value) for value in NO_INTEGERS + (0, 1) if value is not True and value is not False) + tuple(
    (value, True) for value in NO_INSTRUCTIONS + (("go", 61), ("zero", 1, 61)))

NO_TRACES = (
    True, False, None, 0, 5, "", "trace", [], [(("idle",), True)], {}, {0: (("idle",), True)},
    ((("idle",), True),) * 201, ("wrong",) * 201, ((("idle",), True),) * 1000, BeltError("5"),
)

# Values that are no ring of a body of three instructions.
NO_RINGS = NO_TUPLES + (
    (), (0,), (0, 1), ((0,),), ((0, 1, 1),), ([0, 1],), [(0, 1)], ("01",), ((3, 1),), ((-1, 1),), ((0, 2),),
    ((0, -1),), ((0, 0),), ((2, 0),), ((True, 1),), ((0, True),), ((False, 1),), ((1, False), (2, 1)), ((None, 1),),
    ((0, None),), (("0", 1),), ((0, "1"),), ((0, 1), (0, 1)), ((0, 0), (0, 1)), ((1, 0), (0, 1)),
    ((0, 0), (1, 0)), ((0, 0), (2, 0), (1, 1)), ((0, 1), (1, 1), (2, 1), (0, 1)), ((0, 1), None), ((0, 1), (10 ** 5000, 1)),
    ((0, 1), ([], 1)), ((0, 1), (1, {})), ((0, 2), (1, 1)), ((0, -1), (1, 1), (2, 1)), ((0, -1), (1, 2)),
)

# Values that are no order of a block of three instructions.
NO_ORDERS = NO_TUPLES + (
    (), (0, 1), (0, 1, 2, 3), (0, 1, 1), (1, 2, 3), (0, 1, 3), (0, 1, -1), (0, True, 2), (False, 1, 2), [0, 1, 2],
    "012", ("0", "1", "2"), (0, 1, None), (0, 1, (2,)), (0, 1, [2]), (0, 1, {}), ((0, 1, 2),), (0, 1, 10 ** 5000),
)
