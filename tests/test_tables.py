"""Tables and their words."""

import copy
import unittest
from itertools import product

from beamframes import tables
from beamframes.errors import BadTable
from beamframes.ratios import Ratio
from beamframes.tables import is_word, need_table, words_of

PAIRS = ("pairs", (8, 4), (1, 1), (1, 3), 1, 2)
HALVES = ("halves", 5, 2)
RIGHT_TABLES = (
    PAIRS,
    HALVES,
    ("pairs", (), (1, 1), (1, 3), 1, 1),
    ("pairs", (8, 4, 8, 4), (1, 1), (1, 3), 1, 8),
    ("pairs", (1, 99999), (99999, 1), (1, 99999), 99999, 3),
    ("pairs", (99999,) * 4, (99999, 99999), (99999, 99998), 99999, 8),
    ("pairs", (1,) * 4, (1, 1), (2, 1), 1, 1),
    ("pairs", (9000, 4500), (560, 560), (560, 1690), 560, 8),
    ("halves", 1, 1),
    ("halves", 99999, 8),
    ("halves", 889, 5),
)
NO_DURATIONS = (0, -1, 100000, 10 ** 30, True, False, None, "1", 1.0, (1,), [1], Ratio(1), object())
NO_BIT_COUNTS = (0, -1, 9, 10 ** 30, True, False, None, "2", 2.0, (2,), [2], Ratio(2), object())
NO_HEADERS = (
    (1,), (1, 2, 3), (1, 2, 3, 4, 5), (1,) * 6, [], [8, 4], None, 0, 8, "", "84", {}, Ratio(1), object(),
    (8, [4]), ((8, 4), (8, 4)), (8, (4,)),
)
NO_PAIRS = ((), (1,), (1, 1, 1), (1, 1, 1, 1), [1, 3], None, 1, "13", {}, Ratio(1), object(), (1, (3,)), ((1, 3),))
NO_TABLES = (
    None, True, 0, 1, "pairs", "halves", "", b"pairs", (), ("pairs",), ("halves",), ("halves", 5), ("halves", 5, 2, 1),
    ("pairs", (8, 4), (1, 1), (1, 3), 1), ("pairs", (8, 4), (1, 1), (1, 3), 1, 2, 3),
    ("pairs", 5, 2), ("halves", (8, 4), (1, 1), (1, 3), 1, 2),
    ("Pairs", (8, 4), (1, 1), (1, 3), 1, 2), ("Halves", 5, 2), ("pair", (), (1, 1), (1, 3), 1, 2), ("halves ", 5, 2),
    ("", 5, 2), (None, 5, 2), (0, 5, 2), (("halves",), 5, 2), (["pairs"], (), (1, 1), (1, 3), 1, 2), (5, 2, "halves"),
    list(PAIRS), list(HALVES), {"halves": 1}, {0: "halves", 1: 5, 2: 2}, Ratio(1), object(),
    ((("pairs", (), (1, 1), (1, 3), 1, 1), Ratio(1, 4)),), ("abc", 1, 2), (1, 2, 3, 4, 5, 6),
)


def replaced(table, at, thing):
    return table[:at] + (thing,) + table[at + 1:]


class NeedTableTest(unittest.TestCase):
    def refused(self, part, thing):
        with self.subTest(part=part, thing=thing):
            with self.assertRaises(BadTable) as caught:
                need_table(thing)
            self.assertEqual(caught.exception.part, part)

    def test_a_table_is_given_back_itself(self):
        for table in RIGHT_TABLES:
            self.assertIs(need_table(table), table)
            self.assertIs(need_table(thing=table), table)

    def test_form(self):
        for thing in NO_TABLES:
            self.refused("form", thing)

    def test_header(self):
        for header in NO_HEADERS:
            self.refused("header", replaced(PAIRS, 1, header))
        for thing in NO_DURATIONS:
            for at in range(4):
                self.refused("header", replaced(PAIRS, 1, replaced((8, 4, 2, 6), at, thing)))
            for at in range(2):
                self.refused("header", replaced(PAIRS, 1, replaced((8, 4), at, thing)))

    def test_zero_and_one(self):
        for at, part in ((2, "zero"), (3, "one")):
            for thing in NO_PAIRS:
                self.refused(part, replaced(PAIRS, at, thing))
            for thing in NO_DURATIONS:
                self.refused(part, replaced(PAIRS, at, (thing, 7)))
                self.refused(part, replaced(PAIRS, at, (7, thing)))

    def test_one_is_not_equal_to_zero(self):
        for pair in ((1, 1), (1, 3), (99999, 1)):
            self.refused("one", ("pairs", (), pair, pair, 1, 1))
            self.refused("one", ("pairs", (8, 4), pair, tuple(list(pair)), 1, 2))
        for zero, one in (((1, 3), (3, 1)), ((1, 1), (1, 2)), ((2, 1), (1, 1))):
            table = ("pairs", (), zero, one, 1, 1)
            self.assertIs(need_table(table), table)

    def test_stop_and_unit(self):
        for thing in NO_DURATIONS:
            self.refused("stop", replaced(PAIRS, 4, thing))
            self.refused("unit", replaced(HALVES, 1, thing))

    def test_bits(self):
        for thing in NO_BIT_COUNTS:
            self.refused("bits", replaced(PAIRS, 5, thing))
            self.refused("bits", replaced(HALVES, 2, thing))
        for bits in range(1, 9):
            self.assertEqual(need_table(replaced(PAIRS, 5, bits))[5], bits)
            self.assertEqual(need_table(replaced(HALVES, 2, bits))[2], bits)

    def test_the_first_wrong_part_is_told(self):
        parts = ("header", "zero", "one", "stop", "bits")
        for wrong in product((False, True), repeat=5):
            if any(wrong):
                thing = ("pairs",) + tuple(
                    None if is_wrong else part for is_wrong, part in zip(wrong, PAIRS[1:])
                )
                self.refused(parts[wrong.index(True)], thing)
        self.refused("unit", ("halves", 0, 0))
        self.refused("unit", ("halves", None, None))
        self.refused("zero", ("pairs", (), (1, 0), (1, 0), 1, 1))
        self.refused("one", ("pairs", (), (1, 1), (1, 1), 0, 9))

    def test_a_list_is_refused_at_each_place(self):
        self.refused("form", ["pairs", (8, 4), (1, 1), (1, 3), 1, 2])
        self.refused("header", ("pairs", [8, 4], (1, 1), (1, 3), 1, 2))
        self.refused("zero", ("pairs", (8, 4), [1, 1], (1, 3), 1, 2))
        self.refused("one", ("pairs", (8, 4), (1, 1), [1, 3], 1, 2))
        self.refused("stop", ("pairs", (8, 4), (1, 1), (1, 3), [1], 2))
        self.refused("bits", ("pairs", (8, 4), (1, 1), (1, 3), 1, [2]))

    def test_a_refused_thing_stays_as_it_was(self):
        thing = ["pairs", [8, 4], [1, 1], [1, 3], 1, 2]
        kept = copy.deepcopy(thing)
        self.refused("form", thing)
        self.refused("header", tuple(thing))
        self.assertEqual(thing, kept)

    def test_names_stand_in_their_file(self):
        for name in ("need_table", "is_word", "words_of"):
            self.assertEqual(getattr(tables, name).__module__, "beamframes.tables")


class WordsTest(unittest.TestCase):
    def test_all_words_ascending(self):
        for bits in range(1, 9):
            told = list(product((0, 1), repeat=bits))
            for table in (("pairs", (8, 4), (1, 1), (1, 3), 1, bits), ("halves", 5, bits)):
                found = words_of(table)
                self.assertIs(type(found), list)
                self.assertEqual(found, told)
                self.assertEqual(found, sorted(found))
                self.assertEqual(len(found), 2 ** bits)
                self.assertTrue(all(type(word) is tuple for word in found))
                self.assertTrue(all(type(bit) is int for word in found for bit in word))
                self.assertEqual(words_of(table=table), told)

    def test_words_are_words(self):
        for table in RIGHT_TABLES:
            for word in words_of(table):
                self.assertIs(is_word(table, word), True)

    def test_words_have_as_many_bits_as_told(self):
        for bits in range(1, 9):
            for size in range(0, 11):
                for table in (("pairs", (), (1, 1), (1, 3), 1, bits), ("halves", 5, bits)):
                    self.assertIs(is_word(table, (0,) * size), size == bits)
                    self.assertIs(is_word(table, (1,) * size), size == bits)

    def test_no_other_object_is_a_word(self):
        for table in (PAIRS, HALVES):
            for thing in (
                None, True, False, 0, 1, 2, "", "01", b"01", (), (0,), (0, 1, 0), [0, 1], [], {}, {0: 0, 1: 1}, {0, 1},
                (0, 2), (2, 0), (0, -1), (-1, 1), (0, True), (False, 1), (True, True), (False, False), (0, None),
                (0, "1"), ("0", "1"), (0, 1.0), (0.0, 1), (0, (1,)), ((0, 1),), (0, [1]), (Ratio(0), Ratio(1)),
                (0, Ratio(1)), (0, 10 ** 30), Ratio(1), object(), ((0, 1), (0, 1)),
            ):
                with self.subTest(table=table, thing=thing):
                    self.assertIs(is_word(table, thing), False)

    def test_parameters_by_name(self):
        self.assertIs(is_word(table=HALVES, thing=(0, 1)), True)
        self.assertIs(is_word(thing=(0,), table=HALVES), False)

    def test_what_is_no_table_is_refused(self):
        for thing, part in (
            (None, "form"), (list(HALVES), "form"), (replaced(PAIRS, 1, [8, 4]), "header"),
            (replaced(PAIRS, 2, (0, 1)), "zero"), (replaced(PAIRS, 3, (1, 1)), "one"),
            (replaced(PAIRS, 4, True), "stop"), (replaced(PAIRS, 5, 9), "bits"),
            (replaced(HALVES, 1, 0), "unit"), (replaced(HALVES, 2, True), "bits"),
        ):
            for call in (
                lambda: words_of(thing), lambda: is_word(thing, (0, 1)), lambda: is_word(thing, None),
                lambda: words_of(table=thing),
            ):
                with self.subTest(thing=thing):
                    with self.assertRaises(BadTable) as caught:
                        call()
                    self.assertEqual(caught.exception.part, part)

    def test_a_change_to_the_returned_list_has_no_effect(self):
        for table in (PAIRS, HALVES):
            first = words_of(table)
            first.reverse()
            first.append("more")
            self.assertEqual(words_of(table), [(0, 0), (0, 1), (1, 0), (1, 1)])
            second = words_of(table)
            second.clear()
            self.assertEqual(words_of(table), [(0, 0), (0, 1), (1, 0), (1, 1)])


if __name__ == "__main__":
    unittest.main()
