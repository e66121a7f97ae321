"""The error classes: [5] and their row of the interface."""

import inspect
import unittest

from fdwires import errors
from fdwires.errors import WireError

FIELDS = {
    "InvalidTable": [], "InvalidProcess": [], "InvalidIndex": [], "InvalidNumber": [], "InvalidCapacity": [],
    "InvalidCloses": [], "NoCalls": [], "NotCurable": [], "EmptyHistory": [],
    "InvalidProgram": ["process", "index"], "InvalidRedirection": ["index"], "InvalidCalls": ["index"],
    "InvalidText": ["word"], "FailingWords": ["number"], "NotPossible": ["index"], "NotCalm": ["process", "j"],
    "Endless": ["processes"], "TooLarge": ["limit"],
}

VALUES = (0, 7, 10 ** 30, None, (), (0, 1), ((), (0,)))


class Errors(unittest.TestCase):

    def test_exactly_these_classes(self):
        found = {name for name, value in vars(errors).items() if inspect.isclass(value)}
        self.assertEqual(set(FIELDS) | {"WireError"}, found)
        self.assertEqual(18, len(FIELDS))

    def test_direct_subclasses(self):
        self.assertEqual((ValueError,), WireError.__bases__)
        for name in FIELDS:
            kind = getattr(errors, name)
            self.assertEqual((WireError,), kind.__bases__, name)
            self.assertEqual("fdwires.errors", kind.__module__, name)

    def test_fields_by_position_and_by_keyword(self):
        for name, fields in FIELDS.items():
            kind = getattr(errors, name)
            for at in range(len(VALUES) if fields else 0):
                values = [VALUES[(at + place) % len(VALUES)] for place in range(len(fields))]
                named = dict(zip(fields, values))
                for error in (kind(*values), kind(**named)):
                    self.assertEqual(named, {field: getattr(error, field) for field in fields}, name)
                    self.assertIsInstance(str(error), str)

    def test_arguments_are_needed(self):
        for name, fields in FIELDS.items():
            if fields:
                kind = getattr(errors, name)
                with self.assertRaises(TypeError):
                    kind()
                with self.assertRaises(TypeError):
                    kind(*[0] * (len(fields) + 1))

    def test_the_others_take_one_string(self):
        for name in ["WireError"] + [name for name, fields in FIELDS.items() if not fields]:
            self.assertEqual("what is wrong", str(getattr(errors, name)("what is wrong")))

    def test_each_is_caught_as_wire_error_and_as_value_error(self):
        for name, fields in FIELDS.items():
            kind = getattr(errors, name)
            for base in (kind, WireError, ValueError):
                with self.assertRaises(base):
                    raise kind(*([1] * len(fields) if fields else ["text"]))


if __name__ == "__main__":
    unittest.main()
