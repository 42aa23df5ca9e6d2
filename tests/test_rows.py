"""Styles and rows: which ones there are, and which moment of a row is refused."""

import unittest
from fractions import Fraction
from itertools import product

from beamframes.errors import BadNumber, BadRow, BadStyle
from beamframes.presses import need_row, need_style
from beamframes.ratios import Ratio
from tests.told_presses import is_told_row, told_moments

NO_STYLES = (
    None, True, 0, "same", "short", "toggle", b"short", object(), {}, {0: "short"}, set(), Ratio(1), (), [],
    ["short"], ["toggle"], ["same", 1], ("same",), ("same", 1, 1), ("same", 1, None), ("short", 1), ("short", None),
    ("short", ()), ("toggle", 0), ("toggle", "toggle"), ("Same", 1), ("SHORT",), ("short ",), ("toggles",), ("",),
    (None,), (1,), (b"short",), (b"same", 1), (1, "same"), (("short",),), (["short"],), ("short", "toggle"),
    ("same", -1), ("same", 10), ("same", 11), ("same", 10 ** 30), ("same", -10 ** 30), ("same", True), ("same", False),
    ("same", None), ("same", "1"), ("same", 1.0), ("same", Fraction(1)), ("same", Ratio(1)), ("same", (1,)),
    ("same", [1]), ("rest",), ("press", 0, True),
)
NO_NUMBERS = (None, True, False, 0, -1, 5, 6, 10 ** 30, -10 ** 30, "1", "", 1.0, (1,), [1], Ratio(1), Fraction(1), object())
# None of these is a moment of a remote with four buttons, wherever it stands.
NO_MOMENTS = (
    None, True, False, 0, 1, "rest", "press", "hold", b"rest", object(), {}, set(), Ratio(1), (), [], ["rest"],
    ["hold", True], ["press", 0, True], ("rest", True), ("rest", None), ("rest", ()), ("Rest",), ("rest ",), ("",),
    (None,), (b"rest",), (0,), (["rest"],), (("rest",),), ("hold",), ("hold", 1), ("hold", 0), ("hold", None),
    ("hold", "True"), ("hold", []), ("hold", 0, True), ("hold", True, True), ("HOLD", True), ("press",), ("press", 0),
    ("press", True), ("press", True, True), ("press", False, False), ("press", -1, True), ("press", 4, True),
    ("press", 5, True), ("press", 10 ** 30, True), ("press", None, True), ("press", "0", True), ("press", 0.0, True),
    ("press", (0,), True), ("press", Ratio(0), True), ("press", 0, 1), ("press", 0, 0), ("press", 0, None),
    ("press", 0, "True"), ("press", 0, (True,)), ("press", 0, True, True), ("press", 0, True, None), (0, "press", True),
    ("press", True, 0), ("same", 1), ("short",), ("PRESS", 0, True), (("press", 0, True),),
)
HEARD = ("press", 0, True)


class NeedStyleTest(unittest.TestCase):
    def test_a_style_is_given_back_itself(self):
        for style in (("short",), ("toggle",), *[("same", keep) for keep in range(10)]):
            self.assertIs(need_style(style), style)
            self.assertIs(need_style(thing=style), style)

    def test_what_is_none_is_refused(self):
        for thing in NO_STYLES:
            with self.subTest(thing=thing):
                with self.assertRaises(BadStyle) as caught:
                    need_style(thing)
                self.assertIs(caught.exception.given, thing)


class NeedRowTest(unittest.TestCase):
    def refused(self, buttons, thing, moment):
        with self.subTest(buttons=buttons, thing=thing):
            with self.assertRaises(BadRow) as caught:
                need_row(buttons, thing)
            self.assertEqual(caught.exception.moment, moment)
            self.assertIs(type(caught.exception.moment), type(moment))

    def test_all_short_rows(self):
        for buttons, most in ((1, 4), (2, 3), (4, 2)):
            for size in range(most + 1):
                for row in product(told_moments(buttons), repeat=size):
                    if is_told_row(row):
                        self.assertIs(need_row(buttons, row), row)
                    else:
                        wrong = [at for at in range(size) if not is_told_row(row[:at + 1])]
                        self.refused(buttons, row, wrong[0])

    def test_the_row_without_moments_and_a_long_one(self):
        for buttons in (1, 2, 3, 4):
            self.assertEqual(need_row(buttons, ()), ())
        row = (HEARD, ("hold", False), ("rest",)) * 400
        self.assertIs(need_row(thing=row, buttons=1), row)
        self.refused(1, (*row, ("hold", True)), 1200)

    def test_buttons_at_and_beyond_the_bound(self):
        for buttons in (1, 2, 3, 4):
            for button in range(7):
                row = (HEARD, ("rest",), ("press", button, False))
                if button < buttons:
                    self.assertIs(need_row(buttons, row), row)
                else:
                    self.refused(buttons, row, 2)

    def test_what_is_no_moment_at_each_place(self):
        row = (HEARD, ("hold", True), ("rest",), ("press", 3, False), ("hold", False))
        for wrong in NO_MOMENTS:
            self.refused(4, (wrong,), 0)
            for at in range(len(row)):
                self.refused(4, (*row[:at], wrong, *row[at + 1:]), at)
            self.refused(4, (*row, wrong, wrong), len(row))

    def test_hold_at_the_first_moment_and_behind_rest(self):
        for is_heard in (True, False):
            hold = ("hold", is_heard)
            self.refused(1, (hold,), 0)
            self.refused(1, (hold, None), 0)
            self.refused(1, (("rest",), hold), 1)
            self.refused(1, (HEARD, ("rest",), hold, HEARD), 2)
            self.refused(1, (HEARD, hold, hold, ("rest",), ("rest",), hold), 5)
            for before in (HEARD, ("press", 0, False)):
                row = (before, hold, ("hold", not is_heard), hold)
                self.assertIs(need_row(1, row), row)

    def test_the_first_of_several_wrong_moments(self):
        self.refused(1, (HEARD, None, ("hold", True), None), 1)
        self.refused(1, (HEARD, ("rest",), ("hold", True), None), 2)
        self.refused(1, (HEARD, ("press", 1, True), ("hold", 1)), 1)

    def test_what_is_no_tuple(self):
        for thing in (
            None, True, 0, "", "rest", b"", object(), {}, {0: HEARD}, set(), Ratio(1), [], [HEARD], [("rest",)], [None],
        ):
            self.refused(1, thing, None)

    def test_bad_number_comes_ahead_of_bad_row(self):
        for buttons in NO_NUMBERS:
            for row in ((), (HEARD,), [HEARD], None, (None,)):
                with self.subTest(buttons=buttons, row=row):
                    with self.assertRaises(BadNumber) as caught:
                        need_row(buttons, row)
                    self.assertIs(caught.exception.given, buttons)


if __name__ == "__main__":
    unittest.main()
