"""Bursts, and how near they come to frames."""

import unittest
from fractions import Fraction
from random import Random

from beamframes import bursts
from beamframes.bursts import is_within, nearest, need_burst
from beamframes.errors import BadBurst, BadRatio, BadTable
from beamframes.frames import frame_of
from beamframes.ratios import Ratio
from beamframes.tables import words_of
from tests.told import fraction, ratio, ratios, told_nearest

PAIRS = ("pairs", (8, 4), (1, 1), (1, 3), 1, 2)
HALVES = ("halves", 5, 2)
SMALL = ("pairs", (), (1, 1), (1, 3), 1, 1)
TABLES = (
    PAIRS, HALVES, SMALL,
    ("pairs", (), (1, 3), (1, 1), 2, 4),
    ("pairs", (7, 6, 5, 4), (1, 2), (3, 1), 9, 3),
    ("pairs", (), (2, 2), (3, 2), 2, 2),
    ("halves", 1, 1), ("halves", 889, 3), ("halves", 7, 5), ("halves", 99999, 4),
)
NO_RATIOS = (None, True, False, 0, 1, 2, -1, "1", "1/2", 1.0, Fraction(1, 2), (1, 2), (Ratio(1),), [Ratio(1)], object())
NO_BURSTS = (
    None, True, 0, 1, "1 1 1", b"1", 1.5, Ratio(1), object(), {}, {0: Ratio(1)}, set(), [], [Ratio(1)],
    [Ratio(1), Ratio(1), Ratio(1)], (), (Ratio(1),) * 2, (Ratio(1),) * 4, (Ratio(1),) * 62, (Ratio(1),) * 64,
    (Ratio(1),) * 65, (Ratio(1),) * 127, (1, 1, 1), (Ratio(0),), ((Ratio(1), Ratio(1), Ratio(1)),),
    ([Ratio(1)],), (Fraction(1),), (1.0,), ("1",), (True,), (None,),
)
NO_TABLES = (
    (None, "form"), (list(PAIRS), "form"), (("halves", 5), "form"), (("pairs", [8, 4], (1, 1), (1, 3), 1, 2), "header"),
    (("pairs", (8, 4), (1, 0), (1, 3), 1, 2), "zero"), (("pairs", (8, 4), (1, 1), (1, 1), 1, 2), "one"),
    (("pairs", (8, 4), (1, 1), (1, 3), 0, 2), "stop"), (("halves", True, 2), "unit"), (("halves", 5, 9), "bits"),
)


class NeedBurstTest(unittest.TestCase):
    def test_a_burst_is_given_back_itself(self):
        for size in range(1, 64, 2):
            burst = (Ratio(1, size),) * size
            self.assertIs(need_burst(burst), burst)
            self.assertIs(need_burst(thing=burst), burst)
        for burst in (ratios(1), ratios(1, 2, 3), ratios(Fraction(1, 10 ** 40), 10 ** 40, 7)):
            self.assertIs(need_burst(burst), burst)

    def test_what_is_none_is_refused(self):
        for thing in NO_BURSTS:
            with self.subTest(thing=thing):
                with self.assertRaises(BadBurst) as caught:
                    need_burst(thing)
                self.assertIs(caught.exception.given, thing)

    def test_each_item_is_a_ratio_above_0(self):
        for wrong in (*NO_RATIOS, Ratio(0), Ratio(0, 7)):
            for size in (1, 3, 63):
                for at in (0, size // 2, size - 1):
                    thing = (Ratio(1),) * at + (wrong,) + (Ratio(1),) * (size - 1 - at)
                    with self.subTest(wrong=wrong, size=size, at=at):
                        with self.assertRaises(BadBurst) as caught:
                            need_burst(thing)
                        self.assertIs(caught.exception.given, thing)

    def test_names_stand_in_their_file(self):
        for name in ("need_burst", "is_within", "nearest"):
            self.assertEqual(getattr(bursts, name).__module__, "beamframes.bursts")


class IsWithinTest(unittest.TestCase):
    def test_off_by_the_tolerance_a_little_less_and_a_little_more_at_each_item(self):
        little = Fraction(1, 10 ** 30)
        for table in TABLES:
            for word in (words_of(table)[0], words_of(table)[-1]):
                frame = frame_of(table, word)
                for tolerance in (Fraction(1, 4), Fraction(123456789, 987654321987), 2, Fraction(10 ** 40, 3)):
                    for at, duration in enumerate(frame):
                        for sign in (1, -1):
                            for extra, told in ((0, True), (-little, True), (little, False)):
                                item = duration + sign * (tolerance + extra) * duration
                                if item > 0:
                                    burst = ratios(*frame[:at], item, *frame[at + 1:])
                                    with self.subTest(table=table, at=at, item=item, tolerance=tolerance):
                                        self.assertIs(is_within(burst, frame, ratio(tolerance)), told)

    def test_tolerance_0(self):
        frame = frame_of(PAIRS, (0, 1))
        self.assertIs(is_within(ratios(*frame), frame, Ratio(0)), True)
        for at in range(len(frame)):
            for little in (Fraction(1, 10 ** 39), -Fraction(1, 10 ** 39)):
                items = list(frame)
                items[at] += little
                self.assertIs(is_within(ratios(*items), frame, Ratio(0)), False)

    def test_all_items_count(self):
        frame = (5, 10, 5, 5, 5)
        self.assertIs(is_within(ratios(6, 12, 6, 6, 6), frame, Ratio(1, 5)), True)
        self.assertIs(is_within(ratios(4, 8, 6, 4, 6), frame, Ratio(1, 5)), True)
        self.assertIs(is_within(ratios(6, 13, 6, 6, 6), frame, Ratio(1, 5)), False)
        self.assertIs(is_within(ratios(6, 12, 6, 6, 3), frame, Ratio(1, 5)), False)
        self.assertIs(is_within(ratios(7, 10, 5, 5, 5), frame, Ratio(1, 5)), False)

    def test_another_number_of_items(self):
        frame = (5, 10, 5, 5, 5)
        for size in range(1, 64, 2):
            burst = ratios(*((5, 10) + (5,) * 61)[:size])
            self.assertIs(is_within(burst, frame, Ratio(0)), size == 5)
            self.assertIs(is_within(burst, frame, Ratio(10 ** 9)), size == 5)

    def test_integers_of_many_digits(self):
        near = Ratio(10 ** 999 + 1, 10 ** 999)
        self.assertIs(is_within((near,) * 3, (1, 1, 1), Ratio(1, 10 ** 999)), True)
        self.assertIs(is_within((near,) * 3, (1, 1, 1), Ratio(1, 10 ** 999 + 1)), False)

    def test_bad_burst_comes_ahead_of_bad_ratio(self):
        for thing in NO_BURSTS:
            for tolerance in (Ratio(1), None, 1):
                with self.assertRaises(BadBurst) as caught:
                    is_within(thing, (1, 1, 1), tolerance)
                self.assertIs(caught.exception.given, thing)

    def test_what_is_no_ratio_is_refused(self):
        for thing in NO_RATIOS:
            for burst in (ratios(1, 1, 1), ratios(1), ratios(9, 9, 9)):
                with self.subTest(thing=thing):
                    with self.assertRaises(BadRatio) as caught:
                        is_within(burst, (1, 1, 1), thing)
                    self.assertIs(caught.exception.given, thing)

    def test_parameters_by_name(self):
        self.assertIs(is_within(tolerance=Ratio(1), burst=ratios(1, 4, 1), frame=(1, 2, 1)), True)
        self.assertIs(is_within(tolerance=Ratio(1), burst=ratios(1, 5, 1), frame=(1, 2, 1)), False)


class NearestTest(unittest.TestCase):
    def same(self, table, burst):
        with self.subTest(table=table, burst=[str(item) for item in burst]):
            found, told = nearest(table, burst), told_nearest(table, burst)
            if told is None:
                self.assertIsNone(found)
            else:
                self.assertIs(type(found), tuple)
                self.assertIsInstance(found[0], Ratio)
                self.assertEqual((fraction(found[0]), found[1]), told)
                self.assertEqual(nearest(table=table, burst=burst)[1], told[1])

    def test_against_trying_all_words(self):
        random = Random(11)
        for table in TABLES:
            frames = [frame_of(table, word) for word in words_of(table)]
            for _ in range(40):
                frame = random.choice(frames)
                self.same(table, ratios(*[Fraction(d * random.randint(1, 40), random.randint(1, 30)) for d in frame]))
                self.same(table, ratios(*[Fraction(random.randint(1, 12)) for _ in frame]))

    def test_each_frame_is_nearest_to_itself(self):
        for table in TABLES:
            for word in words_of(table):
                self.assertEqual(nearest(table, ratios(*frame_of(table, word))), (Ratio(0), word))

    def test_the_least_word_of_several(self):
        # A gap of 3/2 is as far off 1 as off 3.
        table = ("pairs", (), (1, 1), (1, 3), 1, 3)
        half = Fraction(3, 2)
        self.assertEqual(nearest(table, ratios(1, half, 1, 3, 1, half, 1)), (Ratio(1, 2), (0, 1, 0)))
        # What is off most is the stop, so that no bit counts.
        self.assertEqual(nearest(table, ratios(1, 3, 1, 3, 1, 3, 4)), (Ratio(3), (0, 0, 0)))
        self.assertEqual(nearest(("halves", 5, 1), ratios(50, 5, 5)), (Ratio(9), (0,)))

    def test_a_tolerance_above_1(self):
        self.assertEqual(nearest(SMALL, ratios(5, 3, 1)), (Ratio(4), (0,)))
        self.assertEqual(nearest(SMALL, ratios(1, 10 ** 40, 1)), (Ratio(10 ** 40 - 3, 3), (1,)))
        self.assertEqual(nearest(SMALL, ratios(1, 7, 1)), (Ratio(4, 3), (1,)))

    def test_none_if_no_frame_has_as_many_items(self):
        for table in TABLES:
            sizes = {len(frame_of(table, word)) for word in words_of(table)}
            for size in range(1, 64, 2):
                found = nearest(table, (Ratio(1),) * size)
                self.assertEqual(found is not None, size in sizes)

    def test_frames_with_another_number_of_items_do_not_count(self):
        # Of the four frames of two halves, only that of (0, 1) has three items.
        self.assertEqual(nearest(HALVES, ratios(5, 5, 5)), (Ratio(1, 2), (0, 1)))
        self.assertEqual(nearest(HALVES, ratios(5, 10, 10, 5, 5)), (Ratio(1), (0, 0)))

    def test_errors_in_their_order(self):
        for table, part in NO_TABLES:
            for burst in (ratios(1, 1, 1), None, [Ratio(1)]):
                with self.subTest(table=table):
                    with self.assertRaises(BadTable) as caught:
                        nearest(table, burst)
                    self.assertEqual(caught.exception.part, part)
        for thing in NO_BURSTS:
            with self.subTest(thing=thing):
                with self.assertRaises(BadBurst) as caught:
                    nearest(PAIRS, thing)
                self.assertIs(caught.exception.given, thing)


if __name__ == "__main__":
    unittest.main()
