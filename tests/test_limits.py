"""Limits, and up to which tolerance a receiver is safe."""

import unittest
from fractions import Fraction
from random import Random
from unittest.mock import patch

from beamframes import limits
from beamframes.bursts import is_within
from beamframes.confusing import Ways, start_stands, taken
from beamframes.errors import BadRatio, BadReceiver
from beamframes.frames import frame_of
from beamframes.limits import is_safe, least_to_final, limit_of, margin_of
from beamframes.ratios import Ratio
from beamframes.receivers import reads
from tests.samples import (
    CLEAR_RECEIVERS, DIM_RECEIVERS, LITTLE, NO_RATIOS, NO_RECEIVERS, ONE_TABLE, RECEIVERS, SMALL, some_receiver,
)
from tests.told import fraction, ratio, ratios, receiver_of, told_limit, told_safe, told_sendings


def receivers_to_try(seed, count):
    random = Random(seed)
    return RECEIVERS + tuple(some_receiver(random) for _ in range(count))


def least_of(receiver):
    return min(fraction(tolerance) for _, tolerance in receiver)


class LimitTest(unittest.TestCase):
    def test_against_all_pairs_of_words(self):
        for receiver in receivers_to_try(31, 80):
            with self.subTest(receiver=receiver):
                self.assertIsInstance(limit_of(receiver), Ratio)
                self.assertEqual(fraction(limit_of(receiver)), told_limit(receiver))
                self.assertEqual(limit_of(receiver=receiver), limit_of(receiver))

    def test_at_the_limit_some_sending_can_be_taken_for_another_below_it_none(self):
        for receiver in receivers_to_try(32, 20):
            limit = limit_of(receiver)
            for factor, form in ((1, "taken"), (1 + LITTLE, "taken"), (1 - LITTLE, "safe")):
                tolerance = ratio(fraction(limit) * factor)
                if tolerance != limit or factor == 1:
                    self.assertEqual(taken(receiver, tolerance)[0], form)

    def test_worked_out_by_hand(self):
        for receiver, limit in (
            (ONE_TABLE, Ratio(7, 12)),
            (receiver_of((SMALL, 0)), Ratio(2, 3)),
            (receiver_of((SMALL, Fraction(99, 100))), Ratio(101, 300)),
            # Here the greater word has the shorter gap: 1 has to stand for 3.
            (receiver_of((("pairs", (), (1, 3), (1, 1), 1, 1), Fraction(1, 4))), Ratio(5, 4)),
            (receiver_of((SMALL, 0), (SMALL, 0)), Ratio(0)),
            (receiver_of((("halves", 5, 1), 0)), Ratio(1)),
            (receiver_of((("halves", 10, 1), 0), (("halves", 11, 1), 0)), Ratio(1, 11)),
            (receiver_of((("halves", 11, 1), 0), (("halves", 10, 1), 0)), Ratio(1, 10)),
        ):
            with self.subTest(receiver=receiver):
                self.assertEqual(limit_of(receiver), limit)

    def test_the_greatest_need_on_the_way_counts(self):
        # To be taken for (0,), both the pulse and the gap of (1,) have to be off.
        table = ("pairs", (), (10, 10), (11, 13), 10, 1)
        self.assertEqual(limit_of(receiver_of((table, 0))), Ratio(3, 13))
        table = ("pairs", (), (10, 10), (13, 11), 10, 2)
        self.assertEqual(limit_of(receiver_of((table, 0))), Ratio(3, 13))

    def test_the_least_of_all_ways(self):
        near = ("pairs", (), (10, 10), (10, 11), 10, 1)
        far = ("pairs", (), (10, 20), (10, 90), 10, 1)
        for receiver in (receiver_of((near, 0), (far, 0)), receiver_of((far, 0), (near, 0))):
            self.assertEqual(limit_of(receiver), Ratio(1, 11))

    def test_none_where_no_two_frames_have_as_many_items(self):
        # Each table has two frames with as many items, so that there is no such receiver, but such stands are.
        receiver = receiver_of(
            (("pairs", (), (1, 1), (1, 3), 1, 1), 0), (("pairs", (), (1, 1), (1, 3), 1, 2), 0),
            (("pairs", (8, 4), (1, 1), (1, 3), 1, 2), 0), (("halves", 1, 1), 0),
        )
        found = {
            stand[:2]: least_to_final(Ways(receiver), [stand])
            for stand in start_stands(receiver) if stand[1] < stand[0]
        }
        none = {(1, 0), (2, 0), (2, 1), (3, 1), (3, 2)}
        self.assertEqual({pair for pair, least in found.items() if least is None}, none)
        self.assertEqual(found[3, 0], Ratio(0))
        self.assertIsNone(least_to_final(Ways(receiver), []))

    def test_what_is_no_receiver_is_refused(self):
        for call in (limit_of, margin_of, lambda receiver: is_safe(receiver, Ratio(0))):
            for place, thing in NO_RECEIVERS:
                with self.subTest(thing=thing):
                    with self.assertRaises(BadReceiver) as caught:
                        call(thing)
                    self.assertEqual(caught.exception.place, place)

    def test_names_stand_in_their_file(self):
        for name in ("limit_of", "is_safe", "margin_of"):
            self.assertEqual(getattr(limits, name).__module__, "beamframes.limits")


class SafeTest(unittest.TestCase):
    def test_against_all_pairs_of_words(self):
        found = []
        for receiver in receivers_to_try(33, 60):
            limit, least = told_limit(receiver), least_of(receiver)
            asked = [0, 1, 10 ** 40, limit, limit + LITTLE, least, least + LITTLE, (limit + least) / 2]
            asked += [number * (1 - LITTLE) for number in (limit, least)]
            for number in asked:
                tolerance = ratio(number)
                with self.subTest(receiver=receiver, tolerance=str(tolerance)):
                    told = told_safe(receiver, tolerance)
                    found.append((told, limit > number, least >= number))
                    self.assertIs(is_safe(receiver, tolerance), told)
                    self.assertIs(is_safe(tolerance=tolerance, receiver=receiver), told)
        self.assertEqual(
            set(found), {(True, True, True), (False, True, False), (False, False, True), (False, False, False)}
        )

    def test_at_the_limit_a_little_less_a_little_more(self):
        receiver = receiver_of((SMALL, Fraction(9, 10)))
        limit = Fraction(11, 30)
        self.assertEqual(limit_of(receiver), ratio(limit))
        for number, told in ((limit, False), (limit - LITTLE, True), (limit + LITTLE, False)):
            self.assertIs(is_safe(receiver, ratio(number)), told)

    def test_at_the_least_tolerance_a_little_less_a_little_more(self):
        tables = [(("pairs", (100 ** at,) * 2, (1, 1), (1, 3), 1, 1), Fraction(1, 4 + at)) for at in range(3)]
        for pairs in (tables, tables[::-1], tables[1:] + tables[:1]):
            receiver = receiver_of(*pairs)
            self.assertGreater(limit_of(receiver), Ratio(1, 2))
            for extra, told in ((0, True), (-LITTLE, True), (LITTLE, False)):
                self.assertIs(is_safe(receiver, ratio(Fraction(1, 6) + extra)), told)

    def test_what_is_read_of_bursts_within_the_tolerance(self):
        # Where a receiver is safe, the bursts at the edges of the tolerance are read as what was sent.
        random = Random(34)
        for receiver in CLEAR_RECEIVERS:
            tolerance = ratio(min(least_of(receiver), told_limit(receiver) * (1 - LITTLE)))
            self.assertIs(is_safe(receiver, tolerance), True)
            for index, word in told_sendings(receiver):
                frame = frame_of(receiver[index][0], word)
                for _ in range(4):
                    factors = [1 + random.choice((-1, 0, 1)) * fraction(tolerance) for _ in frame]
                    burst = ratios(*[duration * factor for duration, factor in zip(frame, factors)])
                    self.assertEqual(reads(receiver, burst), (index, word))

    def test_some_burst_is_read_as_another_sending_where_it_is_not_safe(self):
        for receiver in RECEIVERS:
            tolerance = limit_of(receiver)
            self.assertIs(is_safe(receiver, tolerance), False)
            _, first, second, burst = taken(receiver, tolerance)
            self.assertTrue(is_within(burst, frame_of(receiver[first[0]][0], first[1]), tolerance))
            self.assertLessEqual(reads(receiver, burst), second)

    def test_errors_in_their_order(self):
        for place, thing in NO_RECEIVERS:
            for tolerance in (Ratio(0), None, 0):
                with self.assertRaises(BadReceiver) as caught:
                    is_safe(thing, tolerance)
                self.assertEqual(caught.exception.place, place)
        for wrong in NO_RATIOS:
            with self.assertRaises(BadRatio) as caught:
                is_safe(ONE_TABLE, wrong)
            self.assertIs(caught.exception.given, wrong)


class MarginTest(unittest.TestCase):
    def test_against_all_pairs_of_words(self):
        forms = []
        for receiver in receivers_to_try(35, 80):
            limit, least = told_limit(receiver), least_of(receiver)
            form, number = margin_of(receiver)
            forms.append(form)
            with self.subTest(receiver=receiver):
                self.assertIs(type(margin_of(receiver)), tuple)
                self.assertIsInstance(number, Ratio)
                told = ("to", least) if least < limit else ("below", limit)
                self.assertEqual((form, fraction(number)), told)
                self.assertEqual(margin_of(receiver=receiver), (form, number))
                self.assertIs(is_safe(receiver, number), form == "to")
                self.assertIs(is_safe(receiver, number + Ratio(1, 10 ** 40)), False)
        self.assertEqual(set(forms), {"to", "below"})

    def test_the_least_tolerance_at_the_limit_a_little_less_a_little_more(self):
        # With the tolerance R of this table its limit is 1 - (1 + R) / 3, which is R for R = 1/2.
        for extra, form in ((0, "below"), (-LITTLE, "to"), (LITTLE, "below")):
            number = Fraction(1, 2) + extra
            receiver = receiver_of((SMALL, number))
            limit = 1 - (1 + number) / 3
            self.assertEqual(margin_of(receiver), (form, ratio(number if form == "to" else limit)))

    def test_nothing_is_safe_where_the_limit_is_0(self):
        for receiver in DIM_RECEIVERS:
            self.assertEqual(margin_of(receiver), ("below", Ratio(0)))
            self.assertIs(is_safe(receiver, Ratio(0)), False)

    def test_without_a_limit(self):
        with patch.object(limits, "limit_of", return_value=None):
            receiver = receiver_of((SMALL, Fraction(1, 3)), (SMALL, Fraction(1, 4)), (SMALL, Fraction(1, 2)))
            self.assertEqual(margin_of(receiver), ("to", Ratio(1, 4)))
            self.assertIs(is_safe(receiver, Ratio(1, 4)), True)
            self.assertIs(is_safe(receiver, Ratio(2, 7)), False)


if __name__ == "__main__":
    unittest.main()
