"""What is counted in a row, and the first moment at which the count is wrong."""

import unittest
from random import Random

from beamframes import presses
from beamframes.errors import BadNumber, BadRow, BadStyle
from beamframes.presses import counted, first_wrong
from tests.test_rows import NO_MOMENTS, NO_NUMBERS, NO_STYLES
from tests.told_presses import is_told_row, told_counted, told_due, told_first_wrong, told_moments, told_rows

STYLES = (("short",), ("toggle",), *[("same", keep) for keep in range(10)])
REST = ("rest",)
HOLD, LOST_HOLD = ("hold", True), ("hold", False)


def press(button=0):
    return ("press", button, True)


def lost(button=0):
    return ("press", button, False)


def some_row(random, buttons):
    """A row of many moments in which rests are frequent, so that also long pauses come."""
    row = []
    while len(row) < 40:
        moment = random.choice(told_moments(buttons) + [REST] * random.choice((0, 2, 8)))
        if is_told_row((*row, moment)):
            row += [moment] * (random.randint(1, 11) if moment == REST else 1)
    return tuple(row)


class CountedTest(unittest.TestCase):
    def same(self, style, buttons, row):
        told = told_counted(style, row)
        if counted(style, buttons, row) != told or first_wrong(style, buttons, row) != told_first_wrong(style, row):
            self.fail(f"{style} {buttons} {row}")

    def test_all_short_rows(self):
        for buttons, most in ((1, 5), (2, 4), (3, 3), (4, 2)):
            for row in told_rows(buttons, most, 0, most):
                for style in STYLES:
                    self.same(style, buttons, row)

    def test_long_rows(self):
        random = Random(31)
        for buttons in (1, 2, 3, 4):
            for _ in range(150):
                row = some_row(random, buttons)
                for style in STYLES:
                    self.same(style, buttons, row)

    def test_the_row_without_moments(self):
        for style in STYLES:
            for row in ((), (REST,), (lost(),), (REST, lost(), LOST_HOLD, REST)):
                self.assertEqual(counted(style, 1, row), ())
                self.assertIsNone(first_wrong(style, 1, row))

    def test_what_is_returned(self):
        row = (press(1), HOLD, REST, REST, press(0), lost(1), HOLD)
        for style in STYLES:
            found = counted(style, 2, row)
            self.assertIs(type(found), tuple)
            for pair in found:
                self.assertEqual([type(pair), type(pair[0]), type(pair[1])], [tuple, int, int])
            self.assertEqual(list(found), sorted(found))

    def test_same_just_as_many_moments_and_one_more(self):
        for keep in range(10):
            for apart in range(1, 13):
                kept = (press(), *[LOST_HOLD] * (apart - 1), HOLD)
                again = (press(), *[REST] * (apart - 1), press())
                found = counted(("same", keep), 1, kept)
                self.assertEqual(found, counted(("same", keep), 1, again))
                self.assertEqual(found, ((0, 0),) if apart <= keep else ((0, 0), (apart, 0)))
                self.assertEqual(first_wrong(("same", keep), 1, kept), None if apart <= keep else apart)
                self.assertEqual(first_wrong(("same", keep), 1, again), apart if apart <= keep else None)

    def test_same_goes_by_the_frame_that_was_heard_last(self):
        # Each frame begins the moments anew, also one that counts no press.
        self.assertEqual(counted(("same", 2), 1, (press(), REST, press(), REST, press(), REST, press())), ((0, 0),))
        # A frame of another button that is not heard does not matter, one that is heard does.
        self.assertEqual(counted(("same", 2), 2, (press(0), lost(1), press(0))), ((0, 0),))
        self.assertEqual(counted(("same", 2), 2, (press(0), press(1), press(0))), ((0, 0), (1, 1), (2, 0)))
        self.assertEqual(counted(("same", 0), 1, (press(), HOLD, HOLD)), ((0, 0), (1, 0), (2, 0)))

    def test_short_counts_first_frames_alone(self):
        row = (press(1), HOLD, press(1), press(0), lost(0), HOLD, REST, lost(2), HOLD, HOLD)
        self.assertEqual(counted(("short",), 3, row), ((0, 1), (2, 1), (3, 0)))
        self.assertEqual(first_wrong(("short",), 3, row), 5)
        self.assertIsNone(first_wrong(("short",), 3, row[:5]))

    def test_the_marks_of_toggle_over_several_presses(self):
        row = (press(), HOLD, REST, press(), LOST_HOLD, HOLD, press(), press(), REST, press())
        self.assertEqual(counted(("toggle",), 1, row), ((0, 0), (3, 0), (6, 0), (7, 0), (9, 0)))
        self.assertIsNone(first_wrong(("toggle",), 1, row))
        # A press of which nothing is heard takes a mark, so the one behind it has that of the one ahead of it.
        row = (press(), REST, lost(), LOST_HOLD, REST, press(), HOLD, REST, press())
        self.assertEqual(counted(("toggle",), 1, row), ((0, 0), (8, 0)))
        self.assertEqual(first_wrong(("toggle",), 1, row), 5)
        # With another button lost between them, too, but not if the two lost ones take both marks.
        self.assertEqual(counted(("toggle",), 2, (press(0), lost(1), press(0))), ((0, 0),))
        self.assertEqual(counted(("toggle",), 2, (press(0), lost(1), lost(1), press(0))), ((0, 0), (3, 0)))
        self.assertEqual(counted(("toggle",), 2, (press(0), lost(1), press(1))), ((0, 0), (2, 1)))
        self.assertEqual(counted(("toggle",), 1, (lost(), press(), *[REST] * 30, press())), ((1, 0), (32, 0)))

    def test_the_moment_at_which_a_press_is_due(self):
        row = (lost(), HOLD, HOLD, REST, press(), HOLD, lost(), REST, lost(), LOST_HOLD, HOLD)
        self.assertEqual(told_due(row), [1, 4, 10])
        # The press at the moment 6 is not heard, so the one behind it has the mark that was heard last.
        self.assertEqual(first_wrong(("toggle",), 1, row), 10)
        self.assertEqual(first_wrong(("short",), 1, row), 1)
        self.assertEqual(first_wrong(("same", 1), 1, row), None)
        self.assertEqual(first_wrong(("same", 0), 1, row), 2)

    def test_errors_in_their_order(self):
        for call in (counted, first_wrong):
            for style in NO_STYLES:
                for buttons, row in ((1, ()), (None, None), (1, None)):
                    with self.assertRaises(BadStyle) as caught:
                        call(style, buttons, row)
                    self.assertIs(caught.exception.given, style)
            for buttons in NO_NUMBERS:
                for row in ((), None):
                    with self.assertRaises(BadNumber) as caught:
                        call(("short",), buttons, row)
                    self.assertIs(caught.exception.given, buttons)
            for row, moment in (
                (None, None), ([press()], None), ((press(1),), 0), ((press(), REST, HOLD), 2),
                *[((press(), wrong), 1) for wrong in NO_MOMENTS if wrong != ("press", 4, True)],
            ):
                for style in STYLES[:3]:
                    with self.assertRaises(BadRow) as caught:
                        call(style, 1, row)
                    self.assertEqual(caught.exception.moment, moment)

    def test_parameters_by_name(self):
        row = (press(), LOST_HOLD, HOLD)
        self.assertEqual(counted(row=row, buttons=1, style=("same", 1)), ((0, 0), (2, 0)))
        self.assertEqual(first_wrong(row=row, buttons=1, style=("same", 1)), 2)

    def test_names_stand_in_their_file(self):
        for name in ("need_style", "need_row", "counted", "first_wrong", "wrong_row"):
            self.assertEqual(getattr(presses, name).__module__, "beamframes.presses")


if __name__ == "__main__":
    unittest.main()
