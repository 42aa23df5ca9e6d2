"""Receivers, what they read, and sendings."""

import unittest
from fractions import Fraction
from random import Random

from beamframes import receivers
from beamframes.errors import BadBurst, BadReceiver
from beamframes.frames import frame_of
from beamframes.ratios import Ratio
from beamframes.receivers import is_sending, need_receiver, reads
from beamframes.tables import words_of
from tests.told import ratios, receiver_of, told_reads, told_sendings

SMALL = ("pairs", (), (1, 1), (1, 3), 1, 1)
PAIRS = ("pairs", (8, 4), (1, 1), (1, 3), 1, 2)
HALVES = ("halves", 5, 2)
QUARTER = Ratio(1, 4)
RECEIVERS = (
    receiver_of((SMALL, Fraction(1, 4))),
    receiver_of((SMALL, 0)),
    receiver_of((HALVES, Fraction(10 ** 40 - 1, 10 ** 40))),
    receiver_of((PAIRS, Fraction(1, 3)), (("pairs", (8, 4), (1, 2), (1, 3), 1, 2), Fraction(1, 2))),
    receiver_of((HALVES, Fraction(1, 5)), (("halves", 6, 2), Fraction(1, 5)), (("halves", 4, 3), Fraction(1, 3))),
    receiver_of(
        (SMALL, 0), (("halves", 1, 1), Fraction(1, 2)), (("pairs", (), (2, 1), (1, 2), 1, 1), Fraction(9, 10)),
        (SMALL, Fraction(99, 100)),
    ),
)
NO_PAIRS = (
    None, True, 0, 1, "", "ab", SMALL, QUARTER, object(), {}, [], [SMALL, QUARTER], (), (SMALL,), (QUARTER, SMALL),
    (SMALL, QUARTER, QUARTER), (SMALL, SMALL), (QUARTER, QUARTER), (None, QUARTER), (list(SMALL), QUARTER),
    (("pairs", [], (1, 1), (1, 3), 1, 1), QUARTER), (("pairs", (), (1, 1), (1, 1), 1, 1), QUARTER),
    (("halves", 5, 9), QUARTER), (("halves", True, 2), QUARTER), (("halves", 5), QUARTER), ((SMALL, QUARTER), QUARTER),
    (SMALL, None), (SMALL, 0), (SMALL, 1), (SMALL, True), (SMALL, False), (SMALL, "1/4"), (SMALL, 0.25),
    (SMALL, Fraction(1, 4)), (SMALL, (1, 4)), (SMALL, Ratio(1)), (SMALL, Ratio(4, 4)), (SMALL, Ratio(5, 4)),
    (SMALL, Ratio(10 ** 40 + 1, 10 ** 40)), (SMALL, Ratio(10 ** 40)),
)
NO_RECEIVERS = (
    None, True, 0, 4, "", "abc", b"ab", QUARTER, object(), {}, set(), [], (), [(SMALL, QUARTER)],
    ((SMALL, QUARTER),) * 5, ((SMALL, QUARTER),) * 6, (None,) * 5, {0: (SMALL, QUARTER)},
)
NO_BURSTS = (None, True, 1, [], [Ratio(1)], (), (Ratio(1),) * 2, (Ratio(1),) * 65, (Ratio(0),), (1, 1, 1), "1 1 1")


class NeedReceiverTest(unittest.TestCase):
    def refused(self, place, thing):
        with self.subTest(place=place, thing=thing):
            for call in (lambda: need_receiver(thing), lambda: need_receiver(thing=thing)):
                with self.assertRaises(BadReceiver) as caught:
                    call()
                self.assertEqual(caught.exception.place, place)
                self.assertIs(type(caught.exception.place), type(place))

    def test_a_receiver_is_given_back_itself(self):
        for receiver in RECEIVERS:
            self.assertIs(need_receiver(receiver), receiver)
        for count in range(1, 5):
            for tolerance in (Ratio(0), QUARTER, Ratio(10 ** 40 - 1, 10 ** 40), Ratio(10 ** 999 - 1, 10 ** 999)):
                receiver = ((SMALL, tolerance), (HALVES, tolerance), (PAIRS, tolerance), (SMALL, tolerance))[:count]
                self.assertIs(need_receiver(receiver), receiver)

    def test_what_is_no_tuple_of_1_to_4_things(self):
        for thing in NO_RECEIVERS:
            self.refused(None, thing)

    def test_the_first_wrong_pair(self):
        right = (SMALL, QUARTER)
        for wrong in NO_PAIRS:
            for count in range(1, 5):
                for at in range(count):
                    self.refused(at, (right,) * at + (wrong,) + (right,) * (count - 1 - at))
                    self.refused(at, (right,) * at + (wrong,) * (count - at))

    def test_a_receiver_within_a_tuple(self):
        self.refused(0, (RECEIVERS[0],))
        self.refused(0, (SMALL, QUARTER))

    def test_names_stand_in_their_file(self):
        for name in ("need_receiver", "reads", "is_sending"):
            self.assertEqual(getattr(receivers, name).__module__, "beamframes.receivers")


class ReadsTest(unittest.TestCase):
    def test_against_trying_all_words(self):
        random = Random(12)
        for receiver in RECEIVERS:
            frames = [frame_of(receiver[index][0], word) for index, word in told_sendings(receiver)]
            found = []
            for _ in range(150):
                frame = random.choice(frames)
                burst = ratios(*[Fraction(d * random.randint(15, 90), 40) for d in frame])
                told = told_reads(receiver, burst)
                found.append(told)
                with self.subTest(receiver=receiver, burst=[str(item) for item in burst]):
                    self.assertEqual(reads(receiver, burst), told)
                    self.assertEqual(reads(burst=burst, receiver=receiver), told)
            self.assertIn(None, found)

    def test_each_frame_is_read(self):
        for receiver in RECEIVERS:
            for index, word in told_sendings(receiver):
                burst = ratios(*frame_of(receiver[index][0], word))
                self.assertEqual(reads(receiver, burst), told_reads(receiver, burst))
                self.assertLessEqual(reads(receiver, burst), (index, word))

    def test_the_first_table_that_fits(self):
        low, high = (("halves", 4, 1), Ratio(1, 4)), (("halves", 5, 1), Ratio(1, 4))
        self.assertEqual(reads((low, high), ratios(5, 5, 5)), (0, (1,)))
        self.assertEqual(reads((high, low), ratios(5, 5, 5)), (0, (1,)))
        self.assertEqual(reads((low, high), ratios(6, 5, 5)), (1, (1,)))
        self.assertEqual(reads((high, low), ratios(Fraction(7, 2), 5, 5)), (1, (1,)))
        self.assertEqual(reads((low, low, high, high), ratios(6, 6, 6)), (2, (1,)))
        # A greater word of the first table comes ahead of a lesser one of the second table.
        table, turned = ("pairs", (), (1, 1), (1, 3), 1, 1), ("pairs", (), (1, 3), (1, 1), 1, 1)
        self.assertEqual(reads(((table, QUARTER), (turned, QUARTER)), ratios(1, 3, 1)), (0, (1,)))
        self.assertEqual(reads(((turned, QUARTER), (table, QUARTER)), ratios(1, 3, 1)), (0, (0,)))

    def test_the_least_word_of_several(self):
        wide = (("pairs", (), (2, 2), (3, 2), 2, 3), Ratio(1, 3))
        self.assertEqual(reads((wide,), ratios(2, 2, Fraction(5, 2), 2, 3, 2, 2)), (0, (0, 0, 1)))
        self.assertEqual(reads((wide,), ratios(3, 2, Fraction(5, 2), 2, Fraction(7, 3), 2, 2)), (0, (1, 0, 0)))

    def test_what_is_not_read(self):
        receiver = RECEIVERS[0]
        self.assertIsNone(reads(receiver, ratios(1, 2, 1)))
        self.assertIsNone(reads(receiver, ratios(1)))
        self.assertIsNone(reads(receiver, (Ratio(1),) * 63))
        self.assertEqual(reads(receiver, ratios(1, Fraction(5, 4), 1)), (0, (0,)))
        self.assertIsNone(reads(receiver, ratios(1, Fraction(5, 4) + Fraction(1, 10 ** 40), 1)))

    def test_errors_in_their_order(self):
        for place, thing in ((None, []), (None, ()), (0, (None,)), (1, ((SMALL, QUARTER), (SMALL, Ratio(1))))):
            for burst in (ratios(1, 1, 1), None, [Ratio(1)]):
                with self.assertRaises(BadReceiver) as caught:
                    reads(thing, burst)
                self.assertEqual(caught.exception.place, place)
        for thing in NO_BURSTS:
            with self.assertRaises(BadBurst) as caught:
                reads(RECEIVERS[0], thing)
            self.assertIs(caught.exception.given, thing)


class IsSendingTest(unittest.TestCase):
    def test_each_word_of_each_table(self):
        for receiver in RECEIVERS:
            for index, (table, _) in enumerate(receiver):
                for word in words_of(table):
                    self.assertIs(is_sending(receiver, (index, word)), True)
                    self.assertIs(is_sending(thing=(index, word), receiver=receiver), True)

    def test_indexes(self):
        for receiver in RECEIVERS:
            for index, (table, _) in enumerate(receiver):
                word = words_of(table)[0]
                for wrong in (
                    -1, -len(receiver), len(receiver), len(receiver) + 1, 10 ** 30, -10 ** 30, True, False, None,
                    "0", 0.0, (0,), [0], Ratio(0), Ratio(1), object(),
                ):
                    self.assertIs(is_sending(receiver, (wrong, word)), False)

    def test_words_of_another_table(self):
        receiver = receiver_of((SMALL, 0), (PAIRS, 0))
        for index, bits in ((0, 1), (1, 2)):
            for word in ((), (0,), (1,), (0, 1), (1, 1), (0, 0, 1)):
                self.assertIs(is_sending(receiver, (index, word)), len(word) == bits)

    def test_what_is_no_word(self):
        for wrong in (
            None, 0, "0", "00", [0, 1], (0, True), (False, 0), (0, 2), (0, -1), (0, None), (0, 1.0), (0, Ratio(1)),
            ((0, 1),), (0, [1]), frame_of(HALVES, (0, 1)),
        ):
            self.assertIs(is_sending(((HALVES, QUARTER),), (0, wrong)), False)

    def test_any_other_object(self):
        receiver = RECEIVERS[3]
        for thing in (
            None, True, 0, "", "ab", b"ab", {}, {0: (0, 1)}, set(), [], [0, (0, 1)], (), (0,), ((0, 1),), ((0, 1), 0),
            (0, (0, 1), 0), (0, 0, 1), (0, 1), Ratio(1), object(), receiver, receiver[0],
        ):
            self.assertIs(is_sending(receiver, thing), False)

    def test_what_is_no_receiver_is_refused(self):
        for place, thing in ((None, None), (None, ()), (1, ((SMALL, QUARTER), None))):
            for sending in ((0, (0,)), None):
                with self.assertRaises(BadReceiver) as caught:
                    is_sending(thing, sending)
                self.assertEqual(caught.exception.place, place)


if __name__ == "__main__":
    unittest.main()
