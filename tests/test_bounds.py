"""The largest receivers and bursts: each call ends within a few seconds."""

import unittest
from fractions import Fraction
from time import perf_counter

from beamframes.bursts import is_within, nearest
from beamframes.confusing import Ways, check_taken, start_stands, stands_led_to, taken
from beamframes.errors import BadPaper
from beamframes.limits import is_safe, limit_of, margin_of
from beamframes.ratios import Ratio
from beamframes.receivers import reads
from tests.told import ratio, receiver_of

MOST_SECONDS = 5
LONG = 10 ** 999
RECEIVERS = {
    "halves": receiver_of(*[(("halves", 500 + 7 * at, 8), Fraction(1, 500)) for at in range(4)]),
    "halves alike": receiver_of(*[(("halves", 99999, 8), 0)] * 4),
    "pairs": receiver_of(*[
        (("pairs", header, (1, 1 + at), (2 + at, 4), 3, 8), Fraction(1, 9))
        for at, header in enumerate(((), (9, 4), (9, 5, 8, 4), (8, 8)))
    ]),
    "both": receiver_of(
        (("halves", 889, 8), Fraction(1, 4)),
        (("pairs", (9000, 4500), (560, 560), (560, 1690), 560, 8), Fraction(1, 4)),
        (("pairs", (99999,) * 4, (99999, 1), (1, 99999), 99999, 8), Fraction(99, 100)), (("halves", 444, 8), 0),
    ),
    "tolerances of many digits": tuple(
        (("halves", 5 + at, 8), Ratio(LONG // 7, LONG // 2 + at)) for at in range(4)
    ),
}


class BoundsTest(unittest.TestCase):
    def soon(self, call, *given):
        begin = perf_counter()
        found = call(*given)
        self.assertLess(perf_counter() - begin, MOST_SECONDS)
        return found

    def test_papers_and_limits(self):
        for name, receiver in RECEIVERS.items():
            with self.subTest(receiver=name):
                limit = self.soon(limit_of, receiver)
                asked = [Ratio(0), limit, Ratio(1), Ratio(LONG), Ratio(LONG + 1, LONG)]
                asked += [Ratio(limit.num * 999, limit.den * 1000)] if limit.num else []
                for tolerance in asked:
                    paper = self.soon(taken, receiver, tolerance)
                    self.assertEqual(paper[0], "safe" if tolerance < limit else "taken")
                    self.assertEqual(self.soon(check_taken, receiver, tolerance, paper), paper[0])
                    self.soon(is_safe, receiver, tolerance)
                self.soon(margin_of, receiver)

    def test_papers_with_all_stands(self):
        for name, receiver in RECEIVERS.items():
            stands = tuple(stands_led_to(Ways(receiver), start_stands(receiver), None))
            with self.subTest(receiver=name, stands=len(stands)):
                with self.assertRaises(BadPaper) as caught:
                    self.soon(check_taken, receiver, Ratio(0), ("safe", stands))
                self.assertEqual(caught.exception.part, "stands")

    def test_bursts(self):
        for name, receiver in RECEIVERS.items():
            for size in (1, 13, 15, 17, 19, 21, 63):
                for item in (Ratio(1), Ratio(5), Ratio(LONG + 1, LONG), Ratio(LONG, 3), Ratio(99999)):
                    with self.subTest(receiver=name, size=size):
                        burst = (item,) * size
                        self.soon(reads, receiver, burst)
                        for table, tolerance in receiver:
                            self.soon(nearest, table, burst)
                            self.assertFalse(self.soon(is_within, burst, (1,) * 11, tolerance))

    def test_the_longest_frames(self):
        table = ("pairs", (9, 8, 7, 6), (1, 1), (1, 3), 5, 8)
        frame = (9, 8, 7, 6) + (1, 3) * 8 + (5,)
        burst = tuple(ratio(duration + Fraction(1, LONG)) for duration in frame)
        self.assertEqual(self.soon(nearest, table, burst), (Ratio(1, LONG), (1,) * 8))
        self.assertEqual(self.soon(reads, ((table, Ratio(1, LONG)),), burst), (0, (1,) * 8))
        self.assertIsNone(self.soon(reads, ((table, Ratio(1, LONG + 1)),) * 4, burst))


if __name__ == "__main__":
    unittest.main()
