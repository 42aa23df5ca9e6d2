"""reads and nearest for the largest tables: the answers, and that none takes long."""

import sys
import unittest
from fractions import Fraction
from random import Random

from beamframes.bursts import nearest
from beamframes.frames import frame_of
from beamframes.ratios import Ratio
from beamframes.receivers import reads
from tests.told import fraction, ratio, ratios, told_frame, told_nearest, told_reads, told_words

QUARTER = Ratio(1, 4)
LONG_PAIRS = ("pairs", (7, 7, 7, 7), (7, 7), (7, 21), 7, 8)
HALVES = ("halves", 7, 8)
RECEIVER = (
    (("pairs", (), (7, 7), (7, 21), 7, 8), QUARTER), (("pairs", (7, 7), (7, 7), (7, 21), 7, 8), QUARTER),
    (LONG_PAIRS, QUARTER), (HALVES, Ratio(1, 5)),
)
WORD = (1, 0, 1, 1, 0, 0, 1, 0)
UNREAD = (Ratio(1),) * 63
READ_LAST = ratios(*frame_of(HALVES, WORD))
OWN_FRAME = ratios(*frame_of(LONG_PAIRS, (1,) * 8))
TABLES = (
    HALVES, LONG_PAIRS, ("halves", 1, 7), ("pairs", (), (2, 2), (3, 2), 2, 8), ("pairs", (9, 4), (3, 1), (2, 2), 5, 6),
)
# To try all words of these tables takes more than 50,000 calls of functions; these are counted, as seconds vary.
MOST_CALLS = 5000


def count_of_calls(call, *given):
    """How many functions are called in a call."""
    counted = []
    sys.setprofile(lambda frame, event, told: counted.append(event) if event == "call" else None)
    try:
        call(*given)
    finally:
        sys.setprofile(None)
    return len(counted)


def some_burst(random, table, tolerance):
    """A burst near the frame of some word: at the tolerance, somewhere about it, or with other durations."""
    frame = told_frame(table, random.choice(told_words(table)))
    way = random.randrange(4)
    items = []
    for duration in frame:
        if way == 0:
            item = duration * (1 + random.choice((-1, 0, 1)) * tolerance)
        elif way == 1:
            item = duration * Fraction(random.randint(60, 140), 100)
        elif way == 2:
            item = Fraction(random.randint(1, 3 * table[-2] if table[0] == "halves" else 12))
        else:
            item = random.choice((duration, duration * 3 / Fraction(2), Fraction(table[-2])))
        items.append(item or Fraction(1, 9))
    return ratios(*items)


class LargeBurstsTest(unittest.TestCase):
    def test_the_answers(self):
        self.assertIsNone(reads(RECEIVER, UNREAD))
        self.assertEqual(reads(RECEIVER, READ_LAST), (3, WORD))
        self.assertEqual(nearest(LONG_PAIRS, OWN_FRAME), (Ratio(0), (1,) * 8))
        self.assertEqual(nearest(HALVES, READ_LAST), (Ratio(0), WORD))
        for table, _ in RECEIVER:
            self.assertIsNone(nearest(table, UNREAD))

    def test_no_call_takes_long(self):
        others = [ratio(Fraction(duration * 101, 99)) for duration in frame_of(HALVES, (0,) * 8)]
        for call, thing, burst in (
            (reads, RECEIVER, UNREAD), (reads, RECEIVER, READ_LAST), (nearest, LONG_PAIRS, OWN_FRAME),
            (nearest, HALVES, READ_LAST), (nearest, HALVES, UNREAD), (nearest, HALVES, tuple(others)),
            (reads, ((HALVES, Ratio(99, 100)),) * 4, tuple(others)), (reads, ((LONG_PAIRS, QUARTER),) * 4, UNREAD[:21]),
        ):
            with self.subTest(call=call.__name__, thing=thing):
                count = count_of_calls(call, thing, burst)
                self.assertGreater(count, 50)
                self.assertLess(count, MOST_CALLS)

    def test_against_trying_all_words(self):
        random = Random(91)
        found = {"read": 0, "not read": 0, "some word": 0, "no word": 0}
        for _ in range(60):
            tolerance = Fraction(random.choice((0, 1, 2, 3, 5, 7, 9)), 10)
            table = random.choice(TABLES)
            burst = some_burst(random, table, tolerance)
            receiver = tuple((other, ratio(tolerance)) for other in random.sample(TABLES, random.randint(1, 2)))
            told = told_reads(receiver, burst)
            found["not read" if told is None else "read"] += 1
            with self.subTest(receiver=receiver, burst=[str(item) for item in burst]):
                self.assertEqual(reads(receiver, burst), told)
            other = random.choice((table, table, receiver[0][0]))
            told = told_nearest(other, burst)
            found["no word" if told is None else "some word"] += 1
            answer = nearest(other, burst)
            with self.subTest(table=other, burst=[str(item) for item in burst]):
                self.assertEqual(answer if told is None else (fraction(answer[0]), answer[1]), told)
        self.assertGreater(min(found.values()), 5, found)

    def test_the_least_word_though_a_greater_one_comes_nearer_up_to_some_bit(self):
        # Of the items the stop is off most, so no word is nearer than another one, and (0, .., 0) is the least.
        table = ("pairs", (), (1, 1), (1, 3), 1, 8)
        burst = ratios(*[1, 3] * 8, 9)
        self.assertEqual(nearest(table, burst), (Ratio(8), (0,) * 8))
        self.assertEqual(nearest(table, ratios(*[1, 3] * 8, 3)), (Ratio(2), (0,) * 8))
        self.assertEqual(nearest(table, ratios(*[1, 3] * 8, 2)), (Ratio(1), (1,) * 8))

    def test_durations_that_may_be_one_unit_or_two(self):
        # At a tolerance of 1/2 an item of 10 is both a long and a short duration of 7, so several words fit.
        table = ("halves", 7, 3)
        for size in (1, 3, 5, 7, 9):
            burst = (Ratio(10),) * size
            receiver = ((table, Ratio(1, 2)),)
            self.assertEqual(reads(receiver, burst), told_reads(receiver, burst))
            told = told_nearest(table, burst)
            answer = nearest(table, burst)
            self.assertEqual(answer if told is None else (fraction(answer[0]), answer[1]), told)


if __name__ == "__main__":
    unittest.main()
