"""Which sendings can be taken for others: the need, start stands, and the papers that are told."""

import unittest
from fractions import Fraction
from itertools import product
from random import Random

from beamframes import confusing
from beamframes.confusing import check_taken, need_of, start_stands, taken
from beamframes.errors import BadNumber, BadRatio, BadReceiver
from beamframes.frames import frame_of
from beamframes.ratios import Ratio
from tests.samples import (
    DIM_RECEIVERS, LITTLE, NO_RATIOS, NO_RECEIVERS, ONE_TABLE, RECEIVERS, SMALL, asked_tolerances, some_receiver,
)
from tests.told import (
    fraction, ratio, receiver_of, told_need, told_needs, told_place, told_stands, told_starts, told_within,
)

NO_DURATIONS = (0, -1, 100000, 199998, 10 ** 30, True, False, None, "1", 1.0, (1,), [1], Ratio(1), object())


class NeedOfTest(unittest.TestCase):
    def test_each_of_the_three_numbers_is_the_greatest(self):
        for one, other, tolerance, need in (
            (1, 3, Ratio(1, 4), Ratio(5, 4)), (2, 3, Ratio(0), Ratio(1, 2)), (1, 99999, Ratio(0), Ratio(99998)),
            (2, 3, Ratio(1, 5), Ratio(1, 5)),
            (3, 1, Ratio(1, 4), Ratio(7, 12)), (3, 2, Ratio(0), Ratio(1, 3)), (99999, 1, Ratio(0), Ratio(99998, 99999)),
            (2, 1, Ratio(9, 10), Ratio(1, 20)),
            (2, 2, Ratio(0), Ratio(0)), (2, 3, Ratio(1, 3), Ratio(0)), (3, 2, Ratio(1, 2), Ratio(0)),
            (5, 6, Ratio(1, 2), Ratio(0)), (1, 99999, Ratio(99998, 99999), Ratio(0)),
        ):
            with self.subTest(one=one, other=other, tolerance=str(tolerance)):
                self.assertIsInstance(need_of(one, other, tolerance), Ratio)
                self.assertEqual(need_of(one, other, tolerance), need)

    def test_against_the_words_of_the_document(self):
        random = Random(21)
        durations = (1, 2, 3, 5, 8, 560, 1690, 9000, 99998, 99999)
        for one, other in product(durations, repeat=2):
            for tolerance in (Ratio(0), Ratio(1, 4), Ratio(999, 1000), Ratio(random.randint(0, 10 ** 9), 10 ** 9 + 1)):
                self.assertEqual(fraction(need_of(one, other, tolerance)), told_need(one, other, tolerance))

    def test_fact_2_at_the_need_a_little_less_and_a_little_more(self):
        random = Random(22)
        for _ in range(300):
            one, other = random.randint(1, 30), random.randint(1, 30)
            tolerance = ratio(Fraction(random.randint(0, 19), 20))
            need = fraction(need_of(one, other, tolerance))
            low, high = other * (1 - fraction(tolerance)), other * (1 + fraction(tolerance))
            for asked, told in ((need, True), (need + LITTLE, True), (need - LITTLE, False)):
                if asked >= 0:
                    # Both ranges are without gaps, so that they meet if neither is wholly beyond the other one.
                    meet = one * (1 - asked) <= high and low <= one * (1 + asked)
                    self.assertEqual(meet, told)

    def test_a_tolerance_of_many_digits(self):
        tolerance = Ratio(10 ** 999 - 1, 10 ** 999)
        self.assertEqual(need_of(10, 3, tolerance), Ratio(4 * 10 ** 999 + 3, 10 ** 1000))

    def test_errors_in_their_order(self):
        for wrong in NO_DURATIONS:
            for other in (1, *NO_DURATIONS):
                for tolerance in (Ratio(0), None):
                    with self.assertRaises(BadNumber) as caught:
                        need_of(wrong, other, tolerance)
                    self.assertIs(caught.exception.given, wrong)
            for tolerance in (Ratio(0), None, Ratio(1)):
                with self.assertRaises(BadNumber) as caught:
                    need_of(99999, wrong, tolerance)
                self.assertIs(caught.exception.given, wrong)
        for wrong in (*NO_RATIOS, Ratio(1), Ratio(3, 2), Ratio(10 ** 40 + 1, 10 ** 40)):
            with self.subTest(wrong=wrong):
                with self.assertRaises(BadRatio) as caught:
                    need_of(1, 99999, wrong)
                self.assertIs(caught.exception.given, wrong)

    def test_parameters_by_name(self):
        self.assertEqual(need_of(tolerance=Ratio(1, 4), other=1, one=3), Ratio(7, 12))

    def test_names_stand_in_their_file(self):
        for name in ("need_of", "start_stands", "taken", "check_taken"):
            self.assertEqual(getattr(confusing, name).__module__, "beamframes.confusing")


class StartStandsTest(unittest.TestCase):
    def test_as_told_and_ascending(self):
        for receiver in RECEIVERS:
            found = start_stands(receiver)
            self.assertIs(type(found), list)
            self.assertEqual(found, told_starts(receiver))
            self.assertEqual(found, sorted(found))
            self.assertEqual(len(found), len(receiver) * (len(receiver) + 1) // 2)
            for stand in found:
                self.assertEqual([type(part) for part in stand], [int, int, bool, tuple, tuple])

    def test_worked_out_by_hand(self):
        receiver = receiver_of((("pairs", (8, 4), (1, 1), (1, 3), 1, 1), 0), (("halves", 5, 1), 0), (SMALL, 0))
        pairs, halves, small = (0, (8, 4), ""), (0, (5,), "gap"), (0, (), "")
        self.assertEqual(start_stands(receiver), [
            (0, 0, False, pairs, pairs), (1, 0, True, halves, pairs), (1, 1, False, halves, halves),
            (2, 0, True, small, pairs), (2, 1, True, small, halves), (2, 2, False, small, small),
        ])
        self.assertEqual(start_stands(receiver=receiver[:1]), [(0, 0, False, pairs, pairs)])

    def test_a_change_to_the_returned_list_has_no_effect(self):
        receiver = RECEIVERS[8]
        start_stands(receiver).reverse()
        start_stands(receiver).clear()
        start_stands(receiver).append(None)
        self.assertEqual(start_stands(receiver), told_starts(receiver))
        self.assertEqual(check_taken(receiver, Ratio(0), taken(receiver, Ratio(0))), "safe")

    def test_what_is_no_receiver_is_refused(self):
        for place, thing in NO_RECEIVERS:
            with self.subTest(thing=thing):
                with self.assertRaises(BadReceiver) as caught:
                    start_stands(thing)
                self.assertEqual(caught.exception.place, place)


class TakenTest(unittest.TestCase):
    def same(self, receiver, tolerance, needs, may_be_taken):
        paper = taken(receiver, tolerance)
        self.assertIs(type(paper), tuple)
        if not may_be_taken:
            self.assertEqual([len(paper), paper[0], type(paper[1])], [2, "safe", tuple])
            self.assertEqual(len(set(paper[1])), len(paper[1]))
            self.assertEqual(set(paper[1]), told_stands(receiver, tolerance))
            return
        self.assertEqual([len(paper), paper[0]], [4, "taken"])
        _, first, second, burst = paper
        self.assertIn((first, second), needs)
        self.assertLessEqual(needs[first, second], fraction(tolerance))
        self.assertIs(type(burst), tuple)
        self.assertTrue(all(isinstance(item, Ratio) and item > Ratio(0) for item in burst))
        self.assertTrue(told_within(burst, frame_of(receiver[first[0]][0], first[1]), tolerance))
        self.assertTrue(told_within(burst, frame_of(receiver[second[0]][0], second[1]), receiver[second[0]][1]))

    def test_against_all_pairs_of_words(self):
        for receiver in RECEIVERS:
            needs = told_needs(receiver)
            limit = min(needs.values())
            for tolerance in asked_tolerances(receiver):
                with self.subTest(receiver=receiver, tolerance=str(tolerance)):
                    self.same(receiver, tolerance, needs, fraction(tolerance) >= limit)

    def test_against_all_pairs_of_words_of_many_receivers(self):
        random = Random(23)
        for _ in range(60):
            receiver = some_receiver(random)
            needs = told_needs(receiver)
            limit = min(needs.values())
            for asked in (limit, limit * (1 - LITTLE), limit + LITTLE, Fraction(random.randint(0, 30), 20)):
                with self.subTest(receiver=receiver, tolerance=asked):
                    self.same(receiver, ratio(asked), needs, asked >= limit)

    def test_equal_calls_give_equal_results(self):
        for receiver in RECEIVERS:
            for tolerance in (Ratio(0), Ratio(1, 3), Ratio(10)):
                self.assertEqual(taken(receiver, tolerance), taken(tolerance=tolerance, receiver=receiver))

    def test_alike_tables_at_each_tolerance(self):
        for receiver in DIM_RECEIVERS:
            for tolerance in (Ratio(0), Ratio(1, 10 ** 40), Ratio(1), Ratio(10 ** 40)):
                self.same(receiver, tolerance, told_needs(receiver), True)

    def test_fact_3_for_two_tables_with_tolerances_of_their_own(self):
        # A gap of 3 is taken for one of 2 within the tolerance of the lesser table, not of the greater one.
        wide, narrow = ("pairs", (), (9, 9), (9, 3), 9, 1), ("pairs", (), (9, 50), (9, 2), 9, 1)
        for own, other in ((Fraction(1, 2), 0), (0, Fraction(1, 2))):
            receiver = receiver_of((narrow, own), (wide, other))
            self.assertEqual(taken(receiver, Ratio(0))[0], "taken" if own else "safe")

    def test_errors_in_their_order(self):
        for place, thing in NO_RECEIVERS:
            for tolerance in (Ratio(0), None):
                with self.assertRaises(BadReceiver) as caught:
                    taken(thing, tolerance)
                self.assertEqual(caught.exception.place, place)
        for wrong in NO_RATIOS:
            with self.assertRaises(BadRatio) as caught:
                taken(ONE_TABLE, wrong)
            self.assertIs(caught.exception.given, wrong)


class ToldTest(unittest.TestCase):
    """What the tests above compare with, against some that was worked out by hand."""

    def test_the_stands_of_a_small_receiver(self):
        begin, gap, long_gap, stop, end = (0, (), ""), (1, (1, 1), ""), (1, (3, 1), ""), (1, (1,), ""), (1, (), "")
        told = {
            (0, 0, False, begin, begin), (0, 0, False, gap, gap), (0, 0, False, long_gap, long_gap),
            (0, 0, True, long_gap, gap), (0, 0, False, stop, stop), (0, 0, False, end, end),
        }
        self.assertEqual(set(taken(ONE_TABLE, Ratio(1, 2))[1]), told)
        self.assertEqual(told_stands(ONE_TABLE, Ratio(1, 2)), told)
        self.assertEqual(told_stands(ONE_TABLE), told | {(0, 0, True, stop, stop), (0, 0, True, end, end)})

    def test_the_places_of_halves(self):
        both_begin = [(0, (5,), "gap"), (0, (), "gap")]
        both_end = [(1, (5,), "gap"), (1, (), "gap"), (2, (5,), "gap"), (2, (), "gap")]
        for word, places in (
            ((0, 1), both_begin + [(1, (), "pulse"), (2, (), "gap")]),
            ((1, 1), both_begin + both_end),
            ((1, 0), both_begin + both_end),
        ):
            self.assertEqual([told_place(("halves", 5, 2), word, count) for count in range(len(places))], places)


if __name__ == "__main__":
    unittest.main()
