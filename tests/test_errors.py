"""The classes of errors: where they stand, and what they keep."""

import inspect
import unittest

from cellrises import errors
from tests.helpers import junk

GIVEN = (
    "InvalidFraction", "InvalidNumber", "InvalidDimension", "InvalidKind", "InvalidDegree", "InvalidSort", "InvalidIndex",
    "InvalidForm", "InvalidFace", "InvalidCorners", "InvalidWeight", "InvalidTest", "InvalidElement", "InvalidParting",
    "InvalidChain",
)
INDEX = (
    "InvalidForms", "InvalidWeights", "InvalidNumbers", "InvalidCounts", "InvalidHeld", "InvalidJoined", "NotJoined",
    "NotOfKind",
)
BARE = ("UnlikeForms", "UnlikeElements", "NotSettled", "NotJoining", "NotHeld", "NotClosed")


class Classes(unittest.TestCase):
    def test_all_are_there_and_no_others(self):
        told = {name for name, kept in vars(errors).items() if inspect.isclass(kept)}
        self.assertEqual(told, {"CellError", *GIVEN, *INDEX, *BARE})

    def test_base(self):
        self.assertEqual(errors.CellError.__bases__, (ValueError,))
        self.assertEqual(vars(errors.CellError()), {})
        self.assertIs(errors.CellError.__module__, errors.__name__)

    def test_all_others_stand_under_the_base_alone(self):
        for name in GIVEN + INDEX + BARE:
            with self.subTest(name=name):
                self.assertEqual(getattr(errors, name).__bases__, (errors.CellError,))

    def test_attributes_by_position_and_by_name(self):
        for names, attribute in ((GIVEN, "given"), (INDEX, "index")):
            for name in names:
                made = getattr(errors, name)
                for value in junk():
                    with self.subTest(name=name, value=value):
                        for wrong in (made(value), made(**{attribute: value})):
                            self.assertEqual(list(vars(wrong)), [attribute])
                            self.assertIs(getattr(wrong, attribute), value)

    def test_just_one_attribute(self):
        for name in GIVEN + INDEX:
            with self.subTest(name=name):
                self.assertRaises(TypeError, getattr(errors, name))
                self.assertRaises(TypeError, getattr(errors, name), 1, 2)

    def test_no_attributes(self):
        for name in BARE:
            with self.subTest(name=name):
                self.assertEqual(vars(getattr(errors, name)()), {})

    def test_raised_and_caught(self):
        for name in GIVEN + INDEX:
            made = getattr(errors, name)
            for caught in (made, errors.CellError, ValueError):
                with self.subTest(name=name, caught=caught), self.assertRaises(caught):
                    raise made((1, [2]))
        for name in BARE:
            for caught in (getattr(errors, name), errors.CellError, ValueError):
                with self.subTest(name=name, caught=caught), self.assertRaises(caught):
                    raise getattr(errors, name)()


if __name__ == "__main__":
    unittest.main()
