"""The first of the shortest rows that are not counted rightly, within bounds."""

import unittest
from time import perf_counter

from beamframes.errors import BadNumber, BadStyle
from beamframes.presses import need_row, wrong_row
from beamframes.ratios import Ratio
from tests.test_rows import NO_NUMBERS, NO_STYLES
from tests.told_presses import is_told_row, is_within_bounds, told_first_wrong, told_rows, told_wrong_row

STYLES = (("short",), ("toggle",), *[("same", keep) for keep in range(10)])
REST, HOLD, LOST_HOLD = ("rest",), ("hold", True), ("hold", False)
PRESS, LOST = ("press", 0, True), ("press", 0, False)
MOST_SECONDS = 5


class WrongRowTest(unittest.TestCase):
    def test_against_trying_all_rows(self):
        for buttons, most in ((1, 6), (2, 4)):
            for lost in (0, 1, 2):
                for rests in (0, 1, 2):
                    rows = list(told_rows(buttons, lost, rests, most))
                    for style in STYLES[:6]:
                        wrong = [row for row in rows if told_first_wrong(style, row) is not None]
                        found = wrong_row(style, buttons, lost, rests)
                        with self.subTest(style=style, buttons=buttons, lost=lost, rests=rests):
                            if wrong:
                                self.assertEqual(found, wrong[0])
                            else:
                                self.assertTrue(found is None or len(found) > most)

    def test_longer_rows_against_trying_all(self):
        for style, lost, rests, most in (
            (("toggle",), 1, 3, 9), (("same", 4), 0, 3, 5), (("same", 3), 3, 4, 5), (("same", 9), 0, 6, 8),
        ):
            found = wrong_row(style, 1, lost, rests)
            self.assertEqual(found, told_wrong_row(style, 1, lost, rests, most))
            self.assertIsNotNone(found)

    def test_each_row_is_wrong_at_its_end_alone_and_keeps_the_bounds(self):
        for style in STYLES:
            for buttons in (1, 2, 3, 4):
                for lost in range(6):
                    for rests in range(7):
                        row = wrong_row(style, buttons, lost, rests)
                        if row is not None:
                            with self.subTest(style=style, buttons=buttons, lost=lost, rests=rests, row=row):
                                self.assertIs(need_row(buttons, row), row)
                                self.assertTrue(is_told_row(row) and is_within_bounds(row, lost, rests))
                                self.assertEqual(told_first_wrong(style, row), len(row) - 1)

    def test_when_there_is_none(self):
        # "same" is right where no gap within a press is as long as KEEP, and none between presses is as short.
        for keep in range(10):
            for lost in range(6):
                for rests in range(7):
                    is_right = lost + 1 <= keep <= rests
                    for buttons in (1, 2, 4):
                        found = wrong_row(("same", keep), buttons, lost, rests)
                        self.assertEqual(found is None, is_right, (keep, lost, rests, buttons, found))
        for lost in range(6):
            for rests in range(7):
                for style in (("short",), ("toggle",)):
                    self.assertEqual(wrong_row(style, 3, lost, rests) is None, lost == 0)

    def test_known_rows(self):
        for style, buttons, lost, rests, row in (
            (("short",), 2, 1, 3, (LOST, HOLD)),
            (("short",), 1, 0, 0, None),
            (("same", 2), 1, 1, 2, None),
            (("same", 0), 1, 0, 0, (PRESS, HOLD)),
            (("same", 1), 1, 0, 0, (PRESS, PRESS)),
            (("same", 1), 1, 0, 1, None),
            (("same", 1), 1, 1, 1, (PRESS, LOST_HOLD, HOLD)),
            (("same", 2), 1, 0, 1, (PRESS, REST, PRESS)),
            (("same", 3), 1, 2, 2, (PRESS, REST, REST, PRESS)),
            (("same", 3), 1, 3, 3, (PRESS, LOST_HOLD, LOST_HOLD, LOST_HOLD, HOLD)),
            (("toggle",), 1, 1, 0, (PRESS, LOST, PRESS)),
            (("toggle",), 2, 1, 1, (PRESS, REST, LOST, REST, PRESS)),
            (("toggle",), 1, 0, 0, None),
        ):
            self.assertEqual(wrong_row(style, buttons, lost, rests), row)

    def test_lost_frames_with_rests_between_them(self):
        # With one lost frame at most, the press behind a lost hold has to be heard, however long the rest is.
        self.assertFalse(is_within_bounds((PRESS, LOST_HOLD, REST, LOST, HOLD), 1, 1))
        self.assertTrue(is_within_bounds((PRESS, LOST_HOLD, REST, PRESS, LOST_HOLD), 1, 1))
        self.assertEqual(wrong_row(("toggle",), 1, 1, 2), (PRESS, REST, REST, LOST, REST, REST, PRESS))

    def test_the_order_of_what_is_returned(self):
        # Of the two shortest rows, (PRESS, LOST_HOLD, HOLD) and (PRESS, REST, PRESS), it is the first one.
        self.assertEqual(wrong_row(("same", 1), 1, 1, 0), (PRESS, PRESS))
        self.assertEqual(wrong_row(("same", 2), 1, 2, 1), (PRESS, REST, PRESS))
        self.assertEqual(wrong_row(("same", 0), 4, 5, 0), (PRESS, HOLD))
        self.assertEqual(wrong_row(("toggle",), 4, 5, 0), (PRESS, LOST, PRESS))

    def test_the_greatest_bounds_end_soon(self):
        for style in STYLES:
            for lost in (0, 5):
                for rests in (0, 6):
                    begin = perf_counter()
                    wrong_row(style, 4, lost, rests)
                    self.assertLess(perf_counter() - begin, MOST_SECONDS)

    def test_errors_in_their_order(self):
        for style in NO_STYLES:
            for others in ((1, 0, 0), (None, None, None)):
                with self.assertRaises(BadStyle) as caught:
                    wrong_row(style, *others)
                self.assertIs(caught.exception.given, style)
        others = (None, True, False, "0", 0.0, (0,), [0], Ratio(0), object(), -1, 10 ** 30)
        for right, wrong in (
            ((), NO_NUMBERS), ((4,), (*others, 6, 7)), ((4, 5), (*others, 7, 8)),
        ):
            for number in wrong:
                for behind in ((1, 0, 0), (None, None, None)):
                    with self.subTest(right=right, number=number):
                        with self.assertRaises(BadNumber) as caught:
                            wrong_row(("short",), *(*right, number, *behind)[:3])
                        self.assertIs(caught.exception.given, number)

    def test_the_bounds_are_taken(self):
        for lost in range(6):
            for rests in range(7):
                self.assertEqual(wrong_row(("same", 0), 1, lost, rests), (PRESS, HOLD))

    def test_parameters_by_name(self):
        self.assertEqual(wrong_row(rests=3, lost=1, buttons=2, style=("short",)), (LOST, HOLD))


if __name__ == "__main__":
    unittest.main()
