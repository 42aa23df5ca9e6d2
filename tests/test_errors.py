"""The error classes: their attributes and their two families."""

import unittest

from beamframes import errors
from beamframes.errors import FrameError, StateError

FRAME_ERRORS = (
    ("BadRatio", "given"),
    ("BadTable", "part"),
    ("BadWord", "given"),
    ("BadBurst", "given"),
    ("BadReceiver", "place"),
    ("BadNumber", "given"),
    ("BadPaper", "part"),
    ("BadStyle", "given"),
    ("BadRow", "moment"),
    ("BadText", "word"),
)
STATE_ERRORS = (("NothingToUndo", "count"),)
ALL_ERRORS = FRAME_ERRORS + STATE_ERRORS
THINGS = (None, 0, 7, True, "bits", "", (), (1, 2), [1, [2]], {"a": 1}, 10 ** 999, ("a", ("b", [])), object())


def named(name):
    return getattr(errors, name)


class ErrorsTest(unittest.TestCase):
    def test_attribute_keeps_what_is_passed_by_position(self):
        for name, attribute in ALL_ERRORS:
            for thing in THINGS:
                with self.subTest(name=name):
                    self.assertIs(getattr(named(name)(thing), attribute), thing)

    def test_attribute_keeps_what_is_passed_by_name(self):
        for name, attribute in ALL_ERRORS:
            for thing in THINGS:
                with self.subTest(name=name):
                    self.assertIs(getattr(named(name)(**{attribute: thing}), attribute), thing)

    def test_one_error_does_not_change_another_one(self):
        for name, attribute in ALL_ERRORS:
            first, second = named(name)("first"), named(name)("second")
            self.assertEqual([getattr(first, attribute), getattr(second, attribute)], ["first", "second"], name)

    def test_families_are_kinds_of_pythons_errors(self):
        self.assertTrue(issubclass(FrameError, ValueError))
        self.assertTrue(issubclass(StateError, RuntimeError))
        self.assertFalse(issubclass(FrameError, RuntimeError))
        self.assertFalse(issubclass(StateError, ValueError))
        self.assertFalse(issubclass(FrameError, StateError))
        self.assertFalse(issubclass(StateError, FrameError))

    def test_each_error_is_of_its_family_alone(self):
        for family, other, members in (
            (FrameError, StateError, FRAME_ERRORS),
            (StateError, FrameError, STATE_ERRORS),
        ):
            for name, _ in members:
                with self.subTest(name=name):
                    self.assertTrue(issubclass(named(name), family))
                    self.assertFalse(issubclass(named(name), other))

    def test_no_error_is_of_another_class_of_the_list(self):
        for name, _ in ALL_ERRORS:
            for other, _ in ALL_ERRORS:
                with self.subTest(name=name, other=other):
                    self.assertEqual(issubclass(named(name), named(other)), name == other)

    def test_errors_are_caught_by_their_families(self):
        for name, attribute in FRAME_ERRORS:
            for caught in (FrameError, ValueError, named(name)):
                with self.assertRaises(caught) as kept:
                    raise named(name)("thing")
                self.assertEqual(getattr(kept.exception, attribute), "thing", name)
        for caught in (StateError, RuntimeError, errors.NothingToUndo):
            with self.assertRaises(caught) as kept:
                raise errors.NothingToUndo(3)
            self.assertEqual(kept.exception.count, 3)

    def test_classes_are_defined_in_their_file(self):
        for name in ["FrameError", "StateError"] + [name for name, _ in ALL_ERRORS]:
            self.assertEqual(named(name).__module__, "beamframes.errors")


if __name__ == "__main__":
    unittest.main()
