"""The examples of the document, as they stand there."""

import unittest

from beamframes.errors import BadTable
from beamframes.frames import begin_of, frame_of, steps_of, word_of
from beamframes.ratios import Ratio
from beamframes.tables import is_word, need_table, words_of


class ExamplesTest(unittest.TestCase):
    def test_ratios(self):
        self.assertEqual(
            [str(Ratio(6, 4)), str(Ratio(1, 2) + Ratio(1, 3)), Ratio(2) > Ratio(7, 4),
             str(Ratio.read("4/6") * Ratio(3, 4))],
            ["3/2", "5/6", True, "1/2"],
        )

    def test_tables(self):
        table = ("halves", 5, 2)
        self.assertEqual(
            [words_of(table), is_word(table, (0, 1)), is_word(table, (0, 2))],
            [[(0, 0), (0, 1), (1, 0), (1, 1)], True, False],
        )
        with self.assertRaises(BadTable) as caught:
            need_table(("pairs", (8, 4), (1, 1), (1, 1), 1, 2))
        self.assertEqual(caught.exception.part, "one")

    def test_frames(self):
        pairs = ("pairs", (8, 4), (1, 1), (1, 3), 1, 2)
        self.assertEqual(
            [frame_of(pairs, (0, 1)), frame_of(("halves", 5, 2), (1, 0)), word_of(pairs, (8, 4, 1, 3, 1, 3, 1))],
            [(8, 4, 1, 1, 1, 3, 1), (5, 5, 5, 10, 5), (1, 1)],
        )
        self.assertEqual(frame_of(pairs, (0, 1)), (8, 4, 1, 1, 1, 3, 1))
        self.assertEqual(
            [frame_of(("halves", 5, 2), word) for word in ((0, 1), (1, 1), (0, 0), (1, 0))],
            [(5, 10, 10), (5, 5, 5, 5, 5), (5, 10, 5, 5, 5), (5, 5, 5, 10, 5)],
        )

    def test_steps(self):
        table = ("halves", 5, 2)
        self.assertEqual(
            [begin_of(table), steps_of(table, (0, (), "gap"))],
            [(0, (5,), "gap"), [(0, 10, (1, (), "pulse")), (1, 5, (1, (5,), "gap"))]],
        )


if __name__ == "__main__":
    unittest.main()
