"""The examples of the document, as they stand there."""

import unittest

from beamframes.bursts import nearest
from beamframes.confusing import need_of, taken
from beamframes.desk import Desk
from beamframes.ears import Ear, tried
from beamframes.errors import BadTable, BadText
from beamframes.frames import begin_of, frame_of, steps_of, word_of
from beamframes.limits import is_safe, limit_of, margin_of
from beamframes.presses import counted, first_wrong, wrong_row
from beamframes.ratios import Ratio
from beamframes.receivers import reads
from beamframes.tables import is_word, need_table, words_of
from beamframes.texts import read_burst, read_table, table_text


class ExamplesTest(unittest.TestCase):
    def test_ratios(self):
        self.assertEqual(
            [str(Ratio(6, 4)), str(Ratio(1, 2) + Ratio(1, 3)), Ratio(2) > Ratio(7, 4),
             str(Ratio.read("4/6") * Ratio(3, 4))],
            ["3/2", "5/6", True, "1/2"],
        )

    def test_tables(self):
        table = ("halves", 5, 2)
        self.assertEqual(
            [words_of(table), is_word(table, (0, 1)), is_word(table, (0, 2))],
            [[(0, 0), (0, 1), (1, 0), (1, 1)], True, False],
        )
        with self.assertRaises(BadTable) as caught:
            need_table(("pairs", (8, 4), (1, 1), (1, 1), 1, 2))
        self.assertEqual(caught.exception.part, "one")

    def test_frames(self):
        pairs = ("pairs", (8, 4), (1, 1), (1, 3), 1, 2)
        self.assertEqual(
            [frame_of(pairs, (0, 1)), frame_of(("halves", 5, 2), (1, 0)), word_of(pairs, (8, 4, 1, 3, 1, 3, 1))],
            [(8, 4, 1, 1, 1, 3, 1), (5, 5, 5, 10, 5), (1, 1)],
        )
        self.assertEqual(frame_of(pairs, (0, 1)), (8, 4, 1, 1, 1, 3, 1))
        self.assertEqual(
            [frame_of(("halves", 5, 2), word) for word in ((0, 1), (1, 1), (0, 0), (1, 0))],
            [(5, 10, 10), (5, 5, 5, 5, 5), (5, 10, 5, 5, 5), (5, 5, 5, 10, 5)],
        )

    def test_steps(self):
        table = ("halves", 5, 2)
        self.assertEqual(
            [begin_of(table), steps_of(table, (0, (), "gap"))],
            [(0, (5,), "gap"), [(0, 10, (1, (), "pulse")), (1, 5, (1, (5,), "gap"))]],
        )

    def test_bursts(self):
        table = ("pairs", (), (1, 1), (1, 3), 1, 1)
        found = nearest(table, (Ratio(1), Ratio(2), Ratio(1)))
        self.assertEqual([str(found[0]), found[1]], ["1/3", (1,)])

    def test_receivers(self):
        receiver = ((("pairs", (), (1, 1), (1, 3), 1, 1), Ratio(1, 4)),)
        self.assertEqual(
            [reads(receiver, (Ratio(1), Ratio(5, 4), Ratio(1))), reads(receiver, (Ratio(1), Ratio(2), Ratio(1)))],
            [(0, (0,)), None],
        )

    def test_confusing(self):
        self.assertEqual(
            [str(need_of(3, 1, Ratio(1, 4))), str(need_of(1, 3, Ratio(1, 4))), str(need_of(2, 2, Ratio(0)))],
            ["7/12", "5/4", "0"],
        )
        receiver = ((("pairs", (), (1, 1), (1, 3), 1, 1), Ratio(1, 4)),)
        self.assertEqual(
            [taken(receiver, Ratio(7, 12))[:3], len(taken(receiver, Ratio(1, 2))[1])],
            [("taken", (0, (1,)), (0, (0,))), 6],
        )

    def test_limits(self):
        receiver = ((("pairs", (), (1, 1), (1, 3), 1, 1), Ratio(1, 4)),)
        self.assertEqual(
            [str(limit_of(receiver)), margin_of(receiver)[0], str(margin_of(receiver)[1])], ["7/12", "to", "1/4"]
        )
        self.assertEqual([is_safe(receiver, Ratio(1, 4)), is_safe(receiver, Ratio(1, 3))], [True, False])

    def test_presses(self):
        row = (("press", 0, True), ("hold", False), ("hold", True))
        self.assertEqual(
            [counted(("same", 1), 1, row), first_wrong(("same", 1), 1, row), first_wrong(("same", 2), 1, row)],
            [((0, 0), (2, 0)), 2, None],
        )
        self.assertEqual(
            [wrong_row(("short",), 2, 1, 3), wrong_row(("same", 2), 1, 1, 2)],
            [(("press", 0, False), ("hold", True)), None],
        )

    def test_texts(self):
        self.assertEqual(
            [table_text(("pairs", (), (1, 1), (1, 3), 1, 1)), read_table("halves 5 2")],
            ["pairs / 1 1 / 1 3 / 1 / 1", ("halves", 5, 2)],
        )
        with self.assertRaises(BadText) as caught:
            read_burst("1 x 1")
        self.assertEqual(caught.exception.word, 2)

    def test_ears(self):
        receiver = ((("pairs", (), (1, 1), (1, 3), 1, 1), Ratio(1, 4)),)
        ear = Ear(receiver)
        first = ear((Ratio(1), Ratio(3), Ratio(1)))
        rest = tried(ear, (Ratio(1), Ratio(2), Ratio(1)))
        self.assertEqual([first, rest, ear.heard, ear.changes], [(0, (1,)), [None], ((0, (1,)),), 1])

    def test_desk(self):
        desk = Desk()
        first = desk.execute("add 1/4 pairs / 1 1 / 1 3 / 1 / 1")
        self.assertEqual(
            [first, desk.execute("send 0 1"), desk.execute("hear 1 5/4 1"), desk.execute("limit"),
             desk.execute("margin")],
            ["done", "1 3 1", "0 0", "7/12", "to 1/4"],
        )


if __name__ == "__main__":
    unittest.main()
