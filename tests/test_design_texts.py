"""Point 29: designs as texts."""

import random
import unittest

from stagebelt.errors import BadDesign, InvalidText, NotText
from stagebelt.texts import read_design, write_design
from tests.reference_belt import random_design
from tests.samples import DESIGN, EARLIEST, LATEST, NO_DESIGNS
from tests.test_texts import NO_STRINGS

PLACES = "places 1.4 2.2.4 2.2.4 2.3.4 2.2.3 2.2 1 2.2"
LINES = ("read 1", "same yes", PLACES, "paths 3>2 4>2", "waits")

WAITS = (
    ("memory", "load", "store", 7), ("order", "set", "sum", 1), ("value", "load", "store", "b", 2),
    ("wrong", "go", "out", 3),
)


def text_with(at, line):
    """The text of the sample design with another line, at from 1."""
    return "\n".join(LINES[:at - 1] + (line,) + LINES[at:])


class WriteDesignTest(unittest.TestCase):
    def test_ordinary(self):
        self.assertEqual(write_design(DESIGN), "\n".join(LINES))

    def test_waits_and_no_paths(self):
        self.assertEqual(
            write_design((0, False) + DESIGN[2:3] + ((), WAITS)),
            "read 0\nsame no\n" + PLACES + "\npaths\nwaits memory:load:store:7 order:set:sum:1"
            " value:load:store:b:2 wrong:go:out:3")

    def test_ends_of_places(self):
        self.assertEqual(write_design(EARLIEST), (
            "read 0\nsame no\nplaces 0.1 0.0.1 0.0.1 0.0.1 0.0.1 0.0 0 0.0\npaths\nwaits"))
        self.assertEqual(write_design(LATEST), (
            "read 6\nsame yes\nplaces 6.7 6.6.7 6.6.7 6.6.7 6.6.7 7.7 7 7.7\npaths\nwaits"))

    def test_no_designs(self):
        for at, value in enumerate(NO_DESIGNS):
            with self.subTest(at), self.assertRaises(BadDesign):
                write_design(value)


class ReadDesignTest(unittest.TestCase):
    def assert_invalid(self, text, line):
        with self.assertRaises(InvalidText) as caught:
            read_design(text)
        self.assertEqual(caught.exception.line, line)

    def assert_wrong_lines(self, at, lines):
        """Each of the lines is wrong at this place, whatever stands behind it."""
        for line in lines:
            with self.subTest(line):
                self.assert_invalid(text_with(at, line), at)
                self.assert_invalid("\n".join(LINES[:at - 1] + (line,)), at)
                self.assert_invalid(text_with(at, line) + "\n\n", at)
                self.assert_invalid("\n".join(LINES[:at - 1] + (line,) + ("x",) * (5 - at)), at)

    def test_there_and_back(self):
        source = random.Random(9)
        for design in [DESIGN, EARLIEST, LATEST] + [random_design(source) for _ in range(300)]:
            self.assertEqual(read_design(write_design(design)), design)

    def test_kinds_of_values(self):
        design = read_design("\n".join(LINES))
        self.assertEqual(design, DESIGN)
        self.assertIs(type(design[0]), int)
        self.assertIs(design[1], True)
        self.assertIs(read_design(text_with(2, "same no"))[1], False)

    def test_no_text(self):
        for value in NO_STRINGS + (DESIGN, LINES, list(LINES)):
            with self.subTest(value), self.assertRaises(NotText):
                read_design(value)

    def test_read(self):
        self.assert_wrong_lines(1, (
            "", "read", "read ", "read 7", "read 8", "read 9", "read -1", "read 01", "read 10", "read +1", "read 1 ",
            " read 1", "read  1", "read 1 1", "read a", "Read 1", "read\t1", "read 1\r", "read \u0661", "same yes",
            "read1", "read yes", "\n".join(("", "read 1"))))
        self.assertEqual(read_design("\n".join((
            "read 6", "same yes", "places 6.7 6.6.7 6.6.7 6.6.7 6.6.7 6.6 0 6.6", "paths", "waits")))[0], 6)

    def test_same(self):
        self.assert_wrong_lines(2, (
            "", "same", "same ", "same Yes", "same true", "same True", "same 1", "same yes yes", "same yes ",
            "same  yes", "same y", "yes", "read 1", "sameyes", "SAME yes"))

    def test_places(self):
        self.assert_wrong_lines(3, (
            "", "places", PLACES + " ", " " + PLACES, PLACES + " 1", PLACES[:-4], PLACES.replace(" ", "  "),
            PLACES.replace("1.4", "1.8"), PLACES.replace("1.4", "1.4.4"), PLACES.replace("1.4", "14"),
            PLACES.replace("1.4", "1,4"), PLACES.replace("1.4", "1.04"), PLACES.replace("1.4", "1.-4"),
            PLACES.replace("1.4", "1."), PLACES.replace("1.4", ".4"), PLACES.replace("1.4", "1.a"),
            PLACES.replace("1.4", "4.4"), PLACES.replace("1.4", "0.1"), PLACES.replace("2.3.4", "2.3.3"),
            PLACES.replace("2.3.4", "2.1.4"), PLACES.replace("2.3.4", "0.3.4"), PLACES.replace("2.2.3", "3.2.3"),
            PLACES.replace("2.2.3", "2.3.3"), PLACES.replace(" 1 ", " 8 "), PLACES.replace(" 1 ", " 1.1 "),
            PLACES[:-3] + "0.2", PLACES[:-3] + "2.1", "paths", "place" + PLACES[6:], "Places" + PLACES[6:]))

    def test_places_by_read(self):
        self.assert_invalid("read 3\nsame yes\n" + PLACES + "\npaths\nwaits", 3)
        self.assertEqual(read_design("read 2\nsame yes\n" + PLACES + "\npaths\nwaits")[0], 2)
        self.assertEqual(read_design("read 0\nsame yes\n" + PLACES + "\npaths\nwaits")[0], 0)

    def test_paths(self):
        self.assert_wrong_lines(4, (
            "", "paths ", "paths 2>3", "paths 3>3", "paths 8>2", "paths 3>2 3>2", "paths 4>2 3>2", "paths 3>2 ",
            "paths  3>2", "paths 3>2,4>2", "paths 3>2>1", "paths 3", "paths 3>", "paths >2", "paths 3-2", "paths 32",
            "paths 03>2", "paths 3>02", "paths 3>-1", "paths a>b", "path 3>2", " paths", "waits", "paths 3<2"))
        self.assertEqual(read_design(text_with(4, "paths"))[3], ())
        self.assertEqual(read_design(text_with(4, "paths 1>0 7>0 7>6"))[3], ((1, 0), (7, 0), (7, 6)))

    def test_waits(self):
        self.assert_wrong_lines(5, (
            "", "waits ", "waits order", "waits order:set:sum", "waits order:set:sum:0", "waits order:set:sum:8",
            "waits order:set:sum:01", "waits order:set:sum:-1", "waits order:set:sum:1:1", "waits order:set:sum:a",
            "waits order:set:add:1", "waits order:set:sum: 1", "waits order:set:sum:1 ", "waits  order:set:sum:1",
            "waits order:set:sum:1 order:set:sum:1", "waits order:set:sum:2 order:set:sum:1", "waits value:set:sum:1",
            "waits value:set:sum:b:1", "waits memory:load:load:1", "waits :", "waits 1", "waits order.set.sum.1",
            "waits Order:set:sum:1", "wait order:set:sum:1", " waits", "paths", "waits order:set:sum:10",
            "waits wrong:go:out:1 order:set:sum:1", "waits order:set:sum:"))
        self.assertEqual(read_design(text_with(5, "waits value:load:store:b:2 wrong:go:out:3"))[4], WAITS[2:])

    def test_number_of_lines(self):
        text = "\n".join(LINES)
        for more in ("\n", "\n\n", "\nx", "\nwaits", "\n" + text):
            self.assert_invalid(text + more, 6)
        for many in (1, 2, 3, 4):
            self.assert_invalid("\n".join(LINES[:many]), many + 1)
        self.assert_invalid("", 1)
        self.assert_invalid("\n" + text, 1)
        self.assert_invalid("\r\n".join(LINES), 1)
