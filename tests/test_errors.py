"""Point 1 and the interface of errors.py: the classes, their bases and their fields."""

import unittest

from stagebelt import errors

FIELDS = {
    "BadNumber": (), "BadWord": (), "BadProgram": ("index",), "BadInstruction": (), "BadState": (),
    "BadWords": (), "NotText": (), "InvalidText": ("line",), "BadDesign": (), "BadEntry": (),
    "BadKind": (), "BadGuesser": (), "BadDelays": (), "BadWaits": (), "BadPaths": (), "BadPath": (),
    "BadEntries": (), "BadTrace": ("index",), "BadBody": (), "BadRing": (), "BadOrder": (),
    "NotMade": (), "TooLong": ("most",),
}


class ErrorsTest(unittest.TestCase):
    def test_base(self):
        self.assertEqual(errors.BeltError.__bases__, (ValueError,))

    def test_direct_subclasses(self):
        for name in FIELDS:
            with self.subTest(name):
                self.assertEqual(getattr(errors, name).__bases__, (errors.BeltError,))
                self.assertEqual(getattr(errors, name).__module__, "stagebelt.errors")

    def test_no_other_errors(self):
        found = {name for name, value in vars(errors).items() if isinstance(value, type)}
        self.assertEqual(found, set(FIELDS) | {"BeltError"})

    def test_fields(self):
        for name, fields in FIELDS.items():
            for value in (None, 0, 7, 1000):
                with self.subTest(name, value=value):
                    error = getattr(errors, name)(*[value for _ in fields])
                    self.assertEqual(vars(error), {field: value for field in fields})

    def test_fields_by_keyword(self):
        self.assertEqual(errors.TooLong(most=200).most, 200)
        self.assertEqual(errors.InvalidText(line=6).line, 6)
        self.assertIsNone(errors.BadProgram(index=None).index)
        self.assertEqual(errors.BadTrace(index=3).index, 3)

    def test_caught_as_base(self):
        with self.assertRaises(errors.BeltError):
            raise errors.TooLong(1000)
        with self.assertRaises(ValueError):
            raise errors.BadWord("no word")
