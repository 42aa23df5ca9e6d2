"""Frames of words, and words of frames."""

import unittest

from beamframes import frames
from beamframes.errors import BadTable, BadWord
from beamframes.frames import begin_of, frame_of, is_end, steps_of, word_of
from beamframes.ratios import Ratio
from beamframes.tables import words_of
from tests.told import told_frame

PAIRS = ("pairs", (8, 4), (1, 1), (1, 3), 1, 2)
HALVES = ("halves", 5, 2)
TABLES = (
    PAIRS,
    HALVES,
    ("pairs", (), (1, 1), (1, 3), 1, 1),
    ("pairs", (), (1, 3), (1, 1), 2, 4),
    ("pairs", (7, 6, 5, 4), (1, 2), (3, 1), 9, 3),
    ("pairs", (1, 1), (1, 1), (2, 1), 1, 5),
    ("pairs", (9000, 4500), (560, 560), (560, 1690), 560, 8),
    ("pairs", (99999,) * 4, (99999, 1), (1, 99999), 99999, 2),
    ("halves", 1, 1),
    ("halves", 99999, 3),
    ("halves", 889, 5),
    ("halves", 7, 8),
)
NO_TABLES = (
    (None, "form"), (list(PAIRS), "form"), (("pairs", 5, 2), "form"), (("halves", 5), "form"),
    (("pairs", [8, 4], (1, 1), (1, 3), 1, 2), "header"), (("pairs", (8,), (1, 1), (1, 3), 1, 2), "header"),
    (("pairs", (8, 4), (1, 0), (1, 3), 1, 2), "zero"), (("pairs", (8, 4), (1, 1), (1, 1), 1, 2), "one"),
    (("pairs", (8, 4), (1, 1), (1, 3), 100000, 2), "stop"), (("pairs", (8, 4), (1, 1), (1, 3), 1, True), "bits"),
    (("halves", 0, 2), "unit"), (("halves", True, 2), "unit"), (("halves", 5, 9), "bits"),
)


class FrameTest(unittest.TestCase):
    def test_examples_of_the_document(self):
        self.assertEqual(frame_of(PAIRS, (0, 1)), (8, 4, 1, 1, 1, 3, 1))
        self.assertEqual(frame_of(HALVES, (0, 1)), (5, 10, 10))
        self.assertEqual(frame_of(HALVES, (1, 1)), (5, 5, 5, 5, 5))
        self.assertEqual(frame_of(HALVES, (0, 0)), (5, 10, 5, 5, 5))
        self.assertEqual(frame_of(HALVES, (1, 0)), (5, 5, 5, 10, 5))

    def test_examples_worked_out_by_hand(self):
        for table, word, frame in (
            (("pairs", (), (1, 1), (1, 3), 2, 1), (0,), (1, 1, 2)),
            (("pairs", (), (1, 1), (1, 3), 2, 1), (1,), (1, 3, 2)),
            (("pairs", (9, 8, 7, 6), (1, 2), (3, 4), 5, 3), (1, 0, 0), (9, 8, 7, 6, 3, 4, 1, 2, 1, 2, 5)),
            (("halves", 3, 1), (0,), (3, 6, 3)),
            (("halves", 3, 1), (1,), (3, 3, 3)),
            (("halves", 1, 4), (0, 1, 1, 0), (1, 2, 2, 1, 1, 2, 1)),
            (("halves", 1, 4), (1, 0, 0, 1), (1, 1, 1, 2, 1, 1, 2)),
            (("halves", 99999, 2), (0, 1), (99999, 199998, 199998)),
        ):
            with self.subTest(table=table, word=word):
                self.assertEqual(frame_of(table, word), frame)

    def test_all_words_of_several_tables_there_and_back(self):
        for table in TABLES:
            seen = {}
            for word in words_of(table):
                with self.subTest(table=table, word=word):
                    frame = frame_of(table, word)
                    self.assertIs(type(frame), tuple)
                    self.assertTrue(all(type(duration) is int for duration in frame))
                    self.assertEqual(len(frame) % 2, 1)
                    self.assertEqual(frame, told_frame(table, word))
                    self.assertNotIn(frame, seen)
                    seen[frame] = word
                    self.assertEqual(word_of(table, frame), word)
                    self.assertIs(type(word_of(table, frame)), tuple)

    def test_what_is_no_word_is_refused(self):
        for table in (PAIRS, HALVES):
            for thing in (
                None, True, 0, 1, "01", "", b"01", (), (0,), (0, 1, 0), [0, 1], [], {}, (0, 2), (-1, 0), (0, True),
                (False, 1), (0, 1.0), (0, "1"), (0, None), (0, (1,)), ((0, 1),), (0, Ratio(1)), Ratio(1), object(),
            ):
                with self.subTest(table=table, thing=thing):
                    with self.assertRaises(BadWord) as caught:
                        frame_of(table, thing)
                    self.assertIs(caught.exception.given, thing)

    def test_bad_table_comes_first(self):
        for table, part in NO_TABLES:
            for word in ((0, 1), None, (0, 2), [0, 1]):
                with self.subTest(table=table, word=word):
                    with self.assertRaises(BadTable) as caught:
                        frame_of(table, word)
                    self.assertEqual(caught.exception.part, part)

    def test_parameters_by_name(self):
        self.assertEqual(frame_of(table=HALVES, word=(1, 0)), (5, 5, 5, 10, 5))
        self.assertEqual(frame_of(word=(1, 0), table=HALVES), (5, 5, 5, 10, 5))
        self.assertEqual(word_of(frame=(5, 5, 5, 10, 5), table=HALVES), (1, 0))

    def test_equal_calls_give_equal_results(self):
        for table in TABLES:
            word = words_of(table)[-1]
            self.assertEqual(frame_of(table, word), frame_of(table, word))

    def test_names_stand_in_their_file(self):
        for name in ("frame_of", "word_of", "begin_of", "is_end", "steps_of"):
            self.assertEqual(getattr(frames, name).__module__, "beamframes.frames")


class WordOfTest(unittest.TestCase):
    def test_other_objects_have_no_word(self):
        for table, frame in ((PAIRS, (8, 4, 1, 1, 1, 3, 1)), (HALVES, (5, 10, 10))):
            for thing in (
                None, True, False, 0, 5, "", "5 10 10", b"", (), [], {}, list(frame), frame[:-1], frame[1:],
                frame + (1,), frame + (5,), frame + (0,), frame[:-1] + (frame[-1] + 1,), (frame[0] - 1,) + frame[1:],
                frame[::-1], (frame,), tuple((duration,) for duration in frame),
                tuple(str(duration) for duration in frame), tuple(float(duration) for duration in frame),
                tuple(Ratio(duration) for duration in frame), tuple([duration] for duration in frame),
                tuple(None for _ in frame), frame[:-1] + (float(frame[-1]),), frame[:-1] + (Ratio(frame[-1]),),
                {at: duration for at, duration in enumerate(frame)}, Ratio(5), object(), (0, 1), (1, 1),
            ):
                if thing == frame and all(type(part) is int for part in thing):
                    continue
                with self.subTest(table=table, thing=thing):
                    self.assertIs(word_of(table, thing), None)

    def test_a_bool_is_no_duration(self):
        table = ("halves", 1, 1)
        self.assertEqual(word_of(table, (1, 1, 1)), (1,))
        for thing in ((True, 1, 1), (1, True, 1), (1, 1, True), (True, True, True)):
            self.assertIs(word_of(table, thing), None)
        pairs = ("pairs", (), (1, 1), (1, 3), 1, 1)
        self.assertEqual(word_of(pairs, (1, 1, 1)), (0,))
        self.assertIs(word_of(pairs, (1, 1, True)), None)

    def test_frames_of_other_tables_have_no_word(self):
        self.assertIs(word_of(PAIRS, frame_of(HALVES, (0, 1))), None)
        self.assertIs(word_of(HALVES, frame_of(PAIRS, (0, 1))), None)
        self.assertIs(word_of(("halves", 5, 3), frame_of(HALVES, (0, 0))), None)
        self.assertIs(word_of(("halves", 6, 2), frame_of(HALVES, (0, 0))), None)

    def test_what_is_no_table_is_refused(self):
        for table, part in NO_TABLES:
            for frame in ((5, 10, 10), None, "frame"):
                with self.subTest(table=table, frame=frame):
                    with self.assertRaises(BadTable) as caught:
                        word_of(table, frame)
                    self.assertEqual(caught.exception.part, part)


class StepsTest(unittest.TestCase):
    def test_begin(self):
        for table, place in (
            (PAIRS, (0, (8, 4), "")),
            (("pairs", (), (1, 1), (1, 3), 1, 1), (0, (), "")),
            (("pairs", (7, 6, 5, 4), (1, 2), (3, 1), 9, 3), (0, (7, 6, 5, 4), "")),
            (HALVES, (0, (5,), "gap")),
            (("halves", 99999, 8), (0, (99999,), "gap")),
        ):
            self.assertEqual(begin_of(table), place)
            self.assertIs(type(begin_of(table)), tuple)
            self.assertEqual(begin_of(table=table), place)

    def test_steps_of_pairs_worked_out_by_hand(self):
        for place, steps in (
            ((0, (8, 4), ""), [(None, 8, (0, (4,), ""))]),
            ((0, (4,), ""), [(None, 4, (0, (), ""))]),
            ((0, (), ""), [(0, 1, (1, (1,), "")), (1, 1, (1, (3,), ""))]),
            ((1, (3,), ""), [(None, 3, (1, (), ""))]),
            ((1, (), ""), [(0, 1, (2, (1, 1), "")), (1, 1, (2, (3, 1), ""))]),
            ((2, (3, 1), ""), [(None, 3, (2, (1,), ""))]),
            ((2, (1,), ""), [(None, 1, (2, (), ""))]),
            ((2, (), ""), []),
        ):
            with self.subTest(place=place):
                self.assertEqual(steps_of(PAIRS, place), steps)
                self.assertIs(is_end(PAIRS, place), steps == [])

    def test_steps_of_pairs_tell_zero_one_and_stop_apart(self):
        table = ("pairs", (), (2, 3), (4, 5), 6, 1)
        self.assertEqual(steps_of(table, (0, (), "")), [(0, 2, (1, (3, 6), "")), (1, 4, (1, (5, 6), ""))])

    def test_steps_of_halves_worked_out_by_hand(self):
        for place, steps in (
            ((0, (5,), "gap"), [(None, 5, (0, (), "gap"))]),
            ((0, (), "gap"), [(0, 10, (1, (), "pulse")), (1, 5, (1, (5,), "gap"))]),
            ((1, (5,), "gap"), [(None, 5, (1, (), "gap"))]),
            ((1, (), "pulse"), [(0, 5, (2, (5, 5), "gap")), (1, 10, (2, (), "gap"))]),
            ((1, (), "gap"), [(0, 10, (2, (5,), "gap")), (1, 5, (2, (5,), "gap"))]),
            ((2, (5, 5), "gap"), [(None, 5, (2, (5,), "gap"))]),
            ((2, (5,), "gap"), [(None, 5, (2, (), "gap"))]),
            ((2, (), "gap"), []),
        ):
            with self.subTest(place=place):
                self.assertEqual(steps_of(HALVES, place), steps)
                self.assertIs(is_end(HALVES, place), steps == [])

    def test_steps_of_halves_that_stay_in_a_pulse(self):
        table = ("halves", 5, 3)
        self.assertEqual(steps_of(table, (1, (), "pulse")), [(0, 5, (2, (5,), "pulse")), (1, 10, (2, (), "gap"))])
        self.assertEqual(steps_of(table, (2, (5,), "pulse")), [(None, 5, (2, (), "pulse"))])

    def test_the_steps_read_the_frame_of_each_word(self):
        for table in TABLES:
            for word in words_of(table):
                with self.subTest(table=table, word=word):
                    self.assertEqual(self.read_by_steps(table, word), told_frame(table, word))

    def read_by_steps(self, table, word):
        """The durations that are read on the way that settles the bits of a word."""
        place = begin_of(table)
        bits, durations = [], []
        while not is_end(table, place):
            steps = steps_of(table, place)
            if len(bits) == len(word) or place[1] != ():
                self.assertEqual([step[0] for step in steps], [None])
                step = steps[0]
            else:
                self.assertEqual([step[0] for step in steps], [0, 1])
                step = steps[word[len(bits)]]
                bits.append(step[0])
            durations.append(step[1])
            place = step[2]
            self.assertEqual(place[0], len(bits))
        self.assertEqual(tuple(bits), word)
        self.assertEqual(steps_of(table, place), [])
        return tuple(durations)

    def test_all_ways_from_the_begin_are_all_frames(self):
        for table in TABLES:
            found = []
            ways = [(begin_of(table), (), ())]
            while ways:
                place, bits, durations = ways.pop()
                steps = steps_of(table, place)
                self.assertEqual(is_end(table, place), not steps)
                if not steps:
                    found.append((bits, durations))
                for bit, duration, following in steps:
                    settled = bits if bit is None else bits + (bit,)
                    ways.append((following, settled, durations + (duration,)))
            self.assertEqual(sorted(found), [(word, told_frame(table, word)) for word in words_of(table)])

    def test_kinds_of_values(self):
        for table in TABLES:
            waiting = [begin_of(table)]
            seen = set()
            while waiting:
                place = waiting.pop()
                self.assertIs(type(place), tuple)
                known, rest, under_way = place
                self.assertIs(type(known), int)
                self.assertIs(type(rest), tuple)
                self.assertIn(under_way, ("",) if table[0] == "pairs" else ("pulse", "gap"))
                self.assertIs(type(is_end(table, place)), bool)
                steps = steps_of(table, place)
                self.assertIs(type(steps), list)
                for step in steps:
                    self.assertIs(type(step), tuple)
                    self.assertIs(type(step[1]), int)
                waiting.extend(step[2] for step in steps if step[2] not in seen)
                seen.update(step[2] for step in steps)

    def test_a_place_with_all_bits_and_a_rest_is_no_end(self):
        self.assertIs(is_end(PAIRS, (2, (1,), "")), False)
        self.assertIs(is_end(PAIRS, (1, (), "")), False)
        self.assertIs(is_end(PAIRS, (2, (), "")), True)
        self.assertIs(is_end(HALVES, (2, (5,), "gap")), False)
        self.assertIs(is_end(HALVES, (1, (), "pulse")), False)
        self.assertIs(is_end(HALVES, (2, (), "gap")), True)
        self.assertIs(is_end(("pairs", (), (1, 1), (1, 3), 1, 1), (0, (), "")), False)

    def test_parameters_by_name(self):
        self.assertEqual(steps_of(table=HALVES, place=(0, (5,), "gap")), [(None, 5, (0, (), "gap"))])
        self.assertIs(is_end(place=(2, (), "gap"), table=HALVES), True)

    def test_a_change_to_the_returned_list_has_no_effect(self):
        for table, place in ((PAIRS, (0, (), "")), (HALVES, (0, (), "gap")), (PAIRS, (2, (), ""))):
            told = list(steps_of(table, place))
            first = steps_of(table, place)
            first.append("more")
            first.reverse()
            self.assertEqual(steps_of(table, place), told)

    def test_what_is_no_table_is_refused(self):
        for table, part in NO_TABLES:
            for call in (
                lambda: begin_of(table), lambda: is_end(table, (0, (), "")), lambda: steps_of(table, (0, (), "")),
                lambda: is_end(table, (0, (5,), "gap")), lambda: steps_of(table, (0, (5,), "gap")),
            ):
                with self.subTest(table=table):
                    with self.assertRaises(BadTable) as caught:
                        call()
                    self.assertEqual(caught.exception.part, part)


if __name__ == "__main__":
    unittest.main()
