"""Point 1 over the whole program: which error is raised for any value, and for several wrong ones; that nothing is
modified; and the kinds of what is told."""

import copy
import importlib
import itertools
import random
import unittest

from stagebelt import errors
from stagebelt.beats import trace_of
from stagebelt.desks import Desk
from stagebelt.errors import (
    BadBody, BadDelays, BadDesign, BadEntries, BadEntry, BadGuesser, BadInstruction, BadKind, BadNumber, BadOrder, BadPath,
    BadPaths, BadProgram, BadRing, BadState, BadTrace, BadWaits, BadWord, BadWords, BeltError, InvalidText, NotMade, NotText,
    TooLong)
from tests.samples import (
    BODY, DESIGN, LEAST, NO_BODIES, NO_DESIGNS, NO_ENTRIES, NO_GUESSERS, NO_INSTRUCTIONS, NO_INTEGERS, NO_ORDERS, NO_PATHS,
    NO_PROGRAMS, NO_RINGS, NO_STATES, NO_TRACES, NO_TUPLES, NO_WAITS, NO_WORDS, RIGHT, START, WITH_HOLES)
from tests.test_desks import NO_LINES
from tests.test_interface import ARGUMENTS, METHODS

PROGRAM = (("set", 1, 5), ("out", 1))
LOOP = (("go", 0),)
TRACE = ((("set", 1, 5), True), (("go", 0), False))
NEXT = ("next",)
TEXT = "read 1\nsame yes\nplaces 1.4 2.2.4 2.2.4 2.3.4 2.2.3 2.2 1 2.2\npaths\nwaits"
DESK = Desk(DESIGN, PROGRAM, START)

# Objects of the package, and values with such in them.
OBJECTS = (DESK, errors.NotMade("x"), errors.TooLong(1000), (DESK,), [DESK], {"a": DESK}, (DESK, DESK, DESK))

BEYOND = (-1, 1001, 10 ** 10, -10 ** 5000)
NO_STRINGS = NO_INTEGERS[:3] + NO_INTEGERS[6:] + (0, 1, ("text",), ["text"])
NO_KINDS = NO_INTEGERS + (0, "add", ("set",))

# For each argument's name: (right value, error, values that are wrong for it in each function that takes it).
VALUES = {
    "number": (5, BadNumber, NO_INTEGERS), "one": (5, BadWord, NO_WORDS), "other": (0, BadWord, NO_WORDS),
    "instruction": (PROGRAM[0], BadInstruction, NO_INSTRUCTIONS), "program": (PROGRAM, BadProgram, NO_PROGRAMS),
    "state": (START, BadState, NO_STATES), "at": (1, BadNumber, NO_INTEGERS + (-1, 2)),
    "most": (7, BadNumber, NO_INTEGERS + BEYOND), "words": ((4096, 7), BadWords, NO_TUPLES + ((65536,), (0,) * 121)),
    "design": (RIGHT, BadDesign, NO_DESIGNS), "text": (TEXT, NotText, NO_STRINGS),
    "kind": ("set", BadKind, NO_KINDS), "what": ("written", BadKind, NO_KINDS), "waits": (LEAST, BadWaits, NO_WAITS),
    "paths": (((3, 2),), BadPaths, NO_PATHS), "guesser": (NEXT, BadGuesser, NO_GUESSERS),
    "beat": (3, BadNumber, NO_INTEGERS + (1000,) + BEYOND), "delays": ((1, 2), BadDelays, NO_TUPLES + ((), (10,), (0,) * 21)),
    "entry": (LEAST[0], BadEntry, NO_ENTRIES), "path": ((3, 2), BadPath, NO_TUPLES + ((2, 3), (8, 1), (3, 2, 1))),
    "entries": ((LEAST[0][:-1] + (2,),), BadEntries, NO_TUPLES + tuple((item,) for item in NO_ENTRIES) + (LEAST[::-1], LEAST * 2)),
    "trace": (TRACE, BadTrace, NO_TRACES), "body": (BODY, BadBody, NO_BODIES), "block": (BODY, BadBody, NO_BODIES),
    "rounds": (9, BadNumber, NO_INTEGERS + (-1, 10 ** 9 + 1)), "ring": (((0, 0), (1, 1)), BadRing, NO_RINGS),
    "order": ((0, 1, 2), BadOrder, NO_ORDERS),
}

# What tells of any value whether it is something, and so raises no error.
TELLING = ("is_instruction", "is_design", "is_entry")

DESIGNS = {"one": (RIGHT, BadDesign, NO_DESIGNS), "other": (RIGHT, BadDesign, NO_DESIGNS)}


def calls():
    """(name, function, values of its arguments) of each function of the interface that can raise an error."""
    for module, functions in ARGUMENTS.items():
        for name, arguments in functions.items():
            if name not in TELLING:
                kinds = {**VALUES, **DESIGNS} if module == "speeds" else VALUES
                function = getattr(importlib.import_module("stagebelt." + module), name)
                yield name, function, [kinds[argument] for argument in arguments]


def right_values(name, kinds):
    values = [right for right, _, _ in kinds]
    if name == "shown":
        values[0] = DESIGN
    if name == "assembled":
        values[0] = "go a\na:"
    return values


def some_of(source, values, many=12):
    return source.sample(values, min(many, len(values)))


class ErrorsTest(unittest.TestCase):
    def test_right_values(self):
        for name, function, kinds in calls():
            with self.subTest(name):
                values = right_values(name, kinds)
                kept = copy.deepcopy(values)
                one, other = function(*values), function(*values)
                self.assertEqual(values, kept)
                if name != "Desk":
                    self.assertEqual(one, other)
                    self.assertIn(type(one), (int, bool, str, tuple, type(None)))

    def test_each_wrong_value(self):
        for name, function, kinds in calls():
            for at, (_, error, wrong) in enumerate(kinds):
                values = right_values(name, kinds)
                for value in wrong + OBJECTS:
                    with self.subTest(name, at=at):
                        self.assertRaises(error, function, *values[:at], value, *values[at + 1:])

    def test_the_first_of_several_wrong_values(self):
        source = random.Random(90)
        for name, function, kinds in calls():
            for at, (_, error, wrong) in enumerate(kinds):
                for value in some_of(source, wrong + OBJECTS):
                    values = right_values(name, kinds)[:at] + [value]
                    values += [source.choice(later + OBJECTS) for _, _, later in kinds[at + 1:]]
                    with self.subTest(name, at=at):
                        self.assertRaises(error, function, *values)

    def test_any_values(self):
        """Values that are right for one argument, or nearly so, at the place of another one."""
        source = random.Random(91)
        pool = [right for right, _, _ in VALUES.values()] + [source.choice(wrong) for _, _, wrong in VALUES.values()]
        pool += [list(value) for value in pool if isinstance(value, tuple)] + list(OBJECTS) + list(NO_INTEGERS)
        pool += [((value,) * many) for value in list(pool) for many in (1, 2, 3, 5)]
        for name, function, kinds in calls():
            for _ in range(150):
                # Mostly the first ones are right, so that the later ones are looked at.
                right = source.randint(0, len(kinds))
                values = [kinds[at][0] if at < right else source.choice(pool) for at in range(len(kinds))]
                with self.subTest(name):
                    try:
                        function(*values)
                    except BeltError as error:
                        self.assertIn(type(error), [told for _, told, _ in kinds] + [NotMade, TooLong, InvalidText])

    def test_telling_functions_raise_nothing(self):
        every = list(itertools.chain.from_iterable(wrong for _, _, wrong in VALUES.values())) + list(OBJECTS)
        for module, name in (("programs", "is_instruction"), ("designs", "is_design"), ("designs", "is_entry")):
            function = getattr(importlib.import_module("stagebelt." + module), name)
            for value in every:
                self.assertIn(function(value), (True, False))

    def test_direct_subclasses(self):
        for name, function, kinds in calls():
            for _, error, _ in kinds:
                self.assertEqual(error.__bases__, (BeltError,))

    def test_fields(self):
        for name, function, kinds in calls():
            values = right_values(name, kinds)
            for at, (_, error, _) in enumerate(kinds):
                if error in (BadProgram, BadTrace):
                    wrong = (None, (("idle",), None), ("x",))
                    for value, index in zip(wrong, (None, 0 if error == BadTrace else 1, 0)):
                        with self.assertRaises(error) as caught:
                            function(*values[:at], value, *values[at + 1:])
                        self.assertEqual(caught.exception.index, index)


class LastErrorsTest(unittest.TestCase):
    """NotMade and TooLong come behind all others."""

    def assert_last(self, error, path, *values, most=None):
        """With these values the error is raised; with a wrong one among them, that one's error is."""
        module, name = path.split(".")
        function = getattr(importlib.import_module("stagebelt." + module), name)
        kinds = [{**VALUES, **DESIGNS}[argument] if module == "speeds" else VALUES[argument]
                 for argument in ARGUMENTS[module][name]]
        with self.assertRaises(error) as caught:
            function(*values)
        self.assertEqual(getattr(caught.exception, "most", None), most)
        for at, (_, other, wrong) in enumerate(kinds):
            for value in wrong + OBJECTS:
                self.assertRaises(other, function, *values[:at], value, *values[at + 1:])

    def test_not_made(self):
        self.assert_last(NotMade, "rights.shown", RIGHT, LEAST[0])
        self.assert_last(NotMade, "rights.paths_for", DESIGN, (LEAST[0],))
        self.assert_last(NotMade, "speeds.distance", WITH_HOLES, LEAST[0])
        self.assert_last(NotMade, "speeds.order_beats", DESIGN, BODY, (2, 1, 0))
        for design in (DESIGN, WITH_HOLES):
            for name in ("never_slower", "slower_trace"):
                self.assert_last(NotMade, "speeds." + name, design, RIGHT)
                self.assert_last(NotMade, "speeds." + name, RIGHT, design)
            self.assert_last(NotMade, "speeds.rounds_beats", design, BODY, 1)
            self.assert_last(NotMade, "speeds.ring_pace", design, BODY, ((0, 1),))
            for name in ("pace", "pace_ring"):
                self.assert_last(NotMade, "speeds." + name, design, BODY)

    def test_too_long(self):
        for name in ("run", "laid_on"):
            self.assert_last(TooLong, "belts." + name, RIGHT, LOOP, START, NEXT, most=1000)
        self.assert_last(TooLong, "belts.delayed", RIGHT, LOOP, START, NEXT, (0,), most=1000)
        self.assert_last(TooLong, "beats.trace_of", RIGHT, LOOP, START, NEXT, most=1000)
        self.assert_last(TooLong, "plain.ended", LOOP, START, most=1000)
        # Register 4 goes from 6 to 0 by 2, so these are done 3 times, in fewer than 1000 beats.
        program = (("idle",),) * 57 + (("sub", 4, 4, 1), ("zero", 4, 60), ("go", 0))
        self.assertEqual(len(trace_of(RIGHT, program, START, NEXT)), 179)
        state = (START[0][:4] + (8,) + START[0][5:],) + START[1:]
        self.assert_last(TooLong, "beats.trace_of", RIGHT, program, state, NEXT, most=200)


class NothingChangesTest(unittest.TestCase):
    def test_arguments_of_lists(self):
        for name, function, kinds in calls():
            values = [list(right) if isinstance(right, tuple) else [right] for right, _, _ in kinds]
            values = [[[part] for part in value] for value in values]
            kept = copy.deepcopy(values)
            if values:
                self.assertRaises(BeltError, function, *values)
            self.assertEqual(values, kept)

    def test_lists_within_tuples(self):
        for name, function, kinds in calls():
            for at, (right, error, _) in enumerate(kinds):
                if isinstance(right, tuple):
                    values = right_values(name, kinds)
                    values[at] = tuple(list(part) if isinstance(part, tuple) else [part] for part in right)
                    kept = copy.deepcopy(values)
                    self.assertRaises(error, function, *values)
                    self.assertEqual(values, kept)

    def test_desk(self):
        desk = Desk(DESIGN, LOOP, START)
        desk.forward(999)
        told = (desk.state, desk.next, desk.done, desk.run("missing"))
        wrong = [(desk.forward, value) for value in NO_INTEGERS + BEYOND + OBJECTS + (2, 1000)]
        wrong += [(desk.back, value) for value in NO_INTEGERS + BEYOND + OBJECTS]
        wrong += [(desk.redesign, value) for value in NO_DESIGNS + OBJECTS]
        wrong += [(desk.run, value) for value in NO_LINES + NO_STRINGS + OBJECTS + ("forward 2", "beats next", "beats goal")]
        for method, value in wrong:
            self.assertRaises(BeltError, method, value)
            self.assertEqual((desk.state, desk.next, desk.done, desk.run("missing")), told)
        self.assertEqual(sorted(METHODS), ["back", "forward", "redesign", "run"])
