"""The examples of the document, as they stand there."""

import unittest

from beamframes.bursts import nearest
from beamframes.confusing import need_of, taken
from beamframes.errors import BadTable
from beamframes.frames import begin_of, frame_of, steps_of, word_of
from beamframes.limits import is_safe, limit_of, margin_of
from beamframes.ratios import Ratio
from beamframes.receivers import reads
from beamframes.tables import is_word, need_table, words_of


class ExamplesTest(unittest.TestCase):
    def test_ratios(self):
        self.assertEqual(
            [str(Ratio(6, 4)), str(Ratio(1, 2) + Ratio(1, 3)), Ratio(2) > Ratio(7, 4),
             str(Ratio.read("4/6") * Ratio(3, 4))],
            ["3/2", "5/6", True, "1/2"],
        )

    def test_tables(self):
        table = ("halves", 5, 2)
        self.assertEqual(
            [words_of(table), is_word(table, (0, 1)), is_word(table, (0, 2))],
            [[(0, 0), (0, 1), (1, 0), (1, 1)], True, False],
        )
        with self.assertRaises(BadTable) as caught:
            need_table(("pairs", (8, 4), (1, 1), (1, 1), 1, 2))
        self.assertEqual(caught.exception.part, "one")

    def test_frames(self):
        pairs = ("pairs", (8, 4), (1, 1), (1, 3), 1, 2)
        self.assertEqual(
            [frame_of(pairs, (0, 1)), frame_of(("halves", 5, 2), (1, 0)), word_of(pairs, (8, 4, 1, 3, 1, 3, 1))],
            [(8, 4, 1, 1, 1, 3, 1), (5, 5, 5, 10, 5), (1, 1)],
        )
        self.assertEqual(frame_of(pairs, (0, 1)), (8, 4, 1, 1, 1, 3, 1))
        self.assertEqual(
            [frame_of(("halves", 5, 2), word) for word in ((0, 1), (1, 1), (0, 0), (1, 0))],
            [(5, 10, 10), (5, 5, 5, 5, 5), (5, 10, 5, 5, 5), (5, 5, 5, 10, 5)],
        )

    def test_steps(self):
        table = ("halves", 5, 2)
        self.assertEqual(
            [begin_of(table), steps_of(table, (0, (), "gap"))],
            [(0, (5,), "gap"), [(0, 10, (1, (), "pulse")), (1, 5, (1, (5,), "gap"))]],
        )

    def test_bursts(self):
        table = ("pairs", (), (1, 1), (1, 3), 1, 1)
        found = nearest(table, (Ratio(1), Ratio(2), Ratio(1)))
        self.assertEqual([str(found[0]), found[1]], ["1/3", (1,)])

    def test_receivers(self):
        receiver = ((("pairs", (), (1, 1), (1, 3), 1, 1), Ratio(1, 4)),)
        self.assertEqual(
            [reads(receiver, (Ratio(1), Ratio(5, 4), Ratio(1))), reads(receiver, (Ratio(1), Ratio(2), Ratio(1)))],
            [(0, (0,)), None],
        )

    def test_confusing(self):
        self.assertEqual(
            [str(need_of(3, 1, Ratio(1, 4))), str(need_of(1, 3, Ratio(1, 4))), str(need_of(2, 2, Ratio(0)))],
            ["7/12", "5/4", "0"],
        )
        receiver = ((("pairs", (), (1, 1), (1, 3), 1, 1), Ratio(1, 4)),)
        self.assertEqual(
            [taken(receiver, Ratio(7, 12))[:3], len(taken(receiver, Ratio(1, 2))[1])],
            [("taken", (0, (1,)), (0, (0,))), 6],
        )

    def test_limits(self):
        receiver = ((("pairs", (), (1, 1), (1, 3), 1, 1), Ratio(1, 4)),)
        self.assertEqual(
            [str(limit_of(receiver)), margin_of(receiver)[0], str(margin_of(receiver)[1])], ["7/12", "to", "1/4"]
        )
        self.assertEqual([is_safe(receiver, Ratio(1, 4)), is_safe(receiver, Ratio(1, 3))], [True, False])


if __name__ == "__main__":
    unittest.main()
