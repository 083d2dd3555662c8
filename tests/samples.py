"""Values that several tests share."""

from stagebelt.errors import BeltError

START = ((0, 2, 0, 5, 6, 65535, 256, 1), (7, 3, 9, 8, 1, 2, 11, 12, 13, 14, 15, 16, 17, 18, 19, 65535), ())

# Values of all kinds that a caller may pass and that are no integers.
NO_INTEGERS = (
    True, False, None, "", "1", "add", (), (1,), [], [1], {}, {1: 1}, {"a": [1]}, ([],), ({},),
    [(0,)], BeltError("5"),
)

NO_WORDS = NO_INTEGERS + (-1, 65536, 65537, -65536, 10 ** 5000, -10 ** 5000)

# One instruction of each word, with unlike parts.
ONE_OF_EACH = (
    ("idle",), ("set", 1, 300), ("add", 1, 2, 3), ("sub", 2, 3, 4), ("and", 3, 4, 5),
    ("less", 4, 5, 6), ("mul", 5, 6, 7), ("load", 6, 7, 9), ("store", 7, 1, 8), ("zero", 2, 1),
    ("go", 3), ("out", 4),
)

# Values that are no instruction in any program.
NO_INSTRUCTIONS = NO_INTEGERS + (
    0, 1, -1, 60,
    # no word of an instruction, or none at the front
    ("",), ("nop",), ("Idle",), ("idle ",), ("sum", 1, 2, 3), ("SET", 1, 2), (1, "set", 2),
    (0,), (None,), (True,), (["idle"],), ({"idle": 1},), (("idle",),), ([],), ({},), ("set1", 2),
    # too few or too many parts
    ("idle", 0), ("idle", None), ("set",), ("set", 1), ("set", 1, 2, 3), ("add", 1, 2), ("sub", 1, 2, 3, 4),
    ("and",), ("less", 1, 2), ("mul", 1, 2), ("load", 1, 2), ("load", 1, 2, 3, 4), ("store", 1, 2),
    ("store", 1, 2, 3, 4), ("zero", 1), ("zero", 1, 2, 3), ("go",), ("go", 1, 2), ("out",), ("out", 1, 2),
    # lists and strings in place of tuples
    ["idle"], ["set", 1, 2], ["add", 1, 2, 3], "idle", "go", {"go": 1},
)


def with_part(instruction, at, new):
    """An instruction with another item at a place."""
    return instruction[:at] + (new,) + instruction[at + 1:]
