"""Texts of tables and of bursts."""

import unittest
from fractions import Fraction

from beamframes import texts
from beamframes.errors import BadBurst, BadTable, BadText
from beamframes.ratios import Ratio
from beamframes.tables import need_table
from beamframes.texts import burst_text, read_burst, read_table, table_text
from tests.samples import NO_RATIOS
from tests.told import ratios

TEXTS = (
    (("pairs", (), (1, 1), (1, 3), 1, 1), "pairs / 1 1 / 1 3 / 1 / 1"),
    (("pairs", (8, 4), (1, 1), (1, 3), 1, 2), "pairs 8 4 / 1 1 / 1 3 / 1 / 2"),
    (("pairs", (9, 8, 7, 6), (5, 4), (3, 2), 11, 8), "pairs 9 8 7 6 / 5 4 / 3 2 / 11 / 8"),
    (("pairs", (99999,) * 4, (99999, 1), (1, 99999), 99999, 8),
     "pairs 99999 99999 99999 99999 / 99999 1 / 1 99999 / 99999 / 8"),
    (("halves", 5, 2), "halves 5 2"),
    (("halves", 99999, 8), "halves 99999 8"),
    (("halves", 1, 1), "halves 1 1"),
)
NO_STRINGS = (
    None, True, 0, 1, 1.0, b"halves 5 2", b"1", ["halves 5 2"], ["1"], ("halves", 5, 2), (), [], {}, object(), Ratio(1),
    (Ratio(1),),
)
# Words that are no integer of a table's text, wherever they stand.
NO_INTEGERS = (
    "", "x", "00", "01", "007", "00000", "000001", "100000", "123456", "-1", "+1", "-0", "1.0", "1/1", "1e2", "1_0",
    "0x1", "1\n", "\n1", "\n", "1,", "pairs", "halves", "//", "1/", "/1", "10\n", "True", "None",
)


class Refusals(unittest.TestCase):
    def refused(self, read, text, word):
        with self.subTest(text=text):
            for call in (lambda: read(text), lambda: read(text=text)):
                with self.assertRaises(BadText) as caught:
                    call()
                self.assertEqual(caught.exception.word, word)
                self.assertIs(type(caught.exception.word), int)


class TableTextTest(Refusals):
    def test_both_ways(self):
        for table, text in TEXTS:
            self.assertEqual(table_text(table), text)
            self.assertEqual(table_text(table=table), text)
            self.assertEqual(read_table(text), table)
            self.assertEqual(read_table(text=text), table)
            self.assertEqual(need_table(read_table(text)), table)

    def test_what_is_no_table(self):
        for table, part in (
            (None, "form"), ("halves 5 2", "form"), (["halves", 5, 2], "form"), ((), "form"),
            (("pairs", (8,), (1, 1), (1, 3), 1, 2), "header"), (("pairs", (), (1, 1), (1, 1), 1, 2), "one"),
            (("halves", True, 2), "unit"), (("halves", 5, 9), "bits"),
        ):
            with self.assertRaises(BadTable) as caught:
                table_text(table)
            self.assertEqual(caught.exception.part, part)

    def test_one_word_left_out(self):
        for _, text in TEXTS:
            words = text.split(" ")
            for at in range(len(words)):
                self.refused_at_first_fault(words[:at] + words[at + 1:])

    def test_one_word_put_in(self):
        for _, text in TEXTS:
            words = text.split(" ")
            for at in range(len(words) + 1):
                for word in ("/", "1", "0", "99999", "pairs", "halves", *NO_INTEGERS):
                    self.refused_at_first_fault(words[:at] + [word] + words[at:])

    def test_one_word_changed(self):
        for _, text in TEXTS:
            words = text.split(" ")
            for at in range(len(words)):
                for word in ("/", "1", "0", "99999", "pairs", "halves", "Pairs", *NO_INTEGERS):
                    self.refused_at_first_fault(words[:at] + [word] + words[at + 1:])

    def test_two_words_exchanged(self):
        for _, text in TEXTS:
            words = text.split(" ")
            for at in range(len(words)):
                for other in range(at):
                    changed = list(words)
                    changed[at], changed[other] = words[other], words[at]
                    self.refused_at_first_fault(changed)

    def refused_at_first_fault(self, words):
        """A text with these words is refused at its first fault, or has a form by which its numbers are looked at."""
        fault = first_fault(words)
        text = " ".join(words)
        if fault is not None:
            self.refused(read_table, text, fault)
            return
        told = table_of(words)
        try:
            need_table(told)
        except BadTable as error:
            with self.assertRaises(BadTable) as caught:
                read_table(text)
            self.assertEqual(caught.exception.part, error.part, text)
        else:
            self.assertEqual(read_table(text), told)

    def test_known_faults(self):
        for text, word in (
            ("", 1), (" ", 1), ("x", 1), ("Pairs / 1 1 / 1 3 / 1 / 1", 1), ("pairs\n / 1 1 / 1 3 / 1 / 1", 1),
            (" pairs / 1 1 / 1 3 / 1 / 1", 1), ("halves", 2), ("halves ", 2), ("halves 5", 3), ("halves 5 ", 3),
            ("halves 5 2 ", 4), ("halves 5 2 1", 4), ("halves  5 2", 2), ("halves 5  2", 3), ("halves / 2", 2),
            ("halves 5 02", 3), ("halves 5 2\n", 3), ("halves\n5 2", 1), ("halves 000005 2", 2), ("halves 100000 2", 2),
            ("halves +5 2", 2), ("halves -5 2", 2), ("pairs", 2), ("pairs /", 3), ("pairs 1", 3), ("pairs 1 /", 4),
            ("pairs 8 4", 4), ("pairs 8 4 x / 1 1 / 1 3 / 1 / 2", 4), ("pairs 8 4 / 1 / 1 3 / 1 / 2", 6),
            ("pairs 8 4 / 1 1 1 / 1 3 / 1 / 2", 7), ("pairs 8 4 / 1 1 / 1 3 / 1 1 / 2", 12),
            ("pairs 8 4 / 1 1 / 1 3 / 1 / 2 /", 14), ("pairs 8 4 / 1 1 / 1 3 / 1 / 2 2", 14),
            ("pairs 8 4 / 1 1 / 1 3 / 1 /", 13), ("pairs 8 4 / 1 1 / 1 3 / 1", 12), ("pairs 8 4 / 1 1 / 1 3 / /", 11),
            ("pairs  / 1 1 / 1 3 / 1 / 1", 2), ("pairs / 1 1 / 1 3 / 1 / 1 ", 12), ("pairs 8 4 / / 1 3 / 1 / 2", 5),
            # The first fault counts, also if the last words are wrong or there are too many.
            ("pairs 8 4 / 1 x / 1 3 / 1 / 2 9 9", 6), ("x 5 2 1", 1), ("halves x y z w", 2),
            ("pairs " * 700 + "1", 2), ("1 " * 2000, 1),
        ):
            self.refused(read_table, text, word)

    def test_what_is_no_string(self):
        for thing in NO_STRINGS:
            self.refused(read_table, thing, 0)

    def test_then_each_part_that_makes_it_no_table(self):
        for text, part in (
            ("pairs 1 / 1 1 / 1 3 / 1 / 1", "header"), ("pairs 1 2 3 / 1 1 / 1 3 / 1 / 1", "header"),
            ("pairs 1 2 3 4 5 / 1 1 / 1 3 / 1 / 1", "header"), ("pairs 1 2 3 4 5 6 / 1 1 / 1 3 / 1 / 1", "header"),
            ("pairs 0 4 / 1 1 / 1 3 / 1 / 1", "header"), ("pairs 8 0 / 1 1 / 1 3 / 1 / 1", "header"),
            ("pairs / 0 1 / 1 3 / 1 / 1", "zero"), ("pairs / 1 0 / 1 3 / 1 / 1", "zero"),
            ("pairs / 1 1 / 0 3 / 1 / 1", "one"), ("pairs / 1 1 / 1 0 / 1 / 1", "one"),
            ("pairs / 1 3 / 1 3 / 1 / 1", "one"), ("pairs / 1 1 / 1 3 / 0 / 1", "stop"),
            ("pairs / 1 1 / 1 3 / 1 / 0", "bits"), ("pairs / 1 1 / 1 3 / 1 / 9", "bits"),
            ("pairs / 1 1 / 1 3 / 1 / 99999", "bits"), ("pairs 0 / 0 0 / 0 0 / 0 / 0", "header"),
            ("pairs / 0 0 / 0 0 / 0 / 0", "zero"), ("pairs / 1 1 / 0 0 / 0 / 0", "one"),
            ("pairs / 1 1 / 1 3 / 0 / 0", "stop"), ("halves 0 2", "unit"), ("halves 0 0", "unit"),
            ("halves 5 0", "bits"), ("halves 5 9", "bits"), ("halves 5 99999", "bits"),
            ("pairs " + "1 " * 2000 + "/ 1 1 / 1 3 / 1 / 1", "header"),
        ):
            with self.subTest(text=text):
                with self.assertRaises(BadTable) as caught:
                    read_table(text)
                self.assertEqual(caught.exception.part, part)

    def test_names_stand_in_their_file(self):
        for name in ("table_text", "burst_text", "read_table", "read_burst"):
            self.assertEqual(getattr(texts, name).__module__, "beamframes.texts")


def is_integer(word):
    return word in {str(number) for number in (*range(100), 99999)}


def first_fault(words):
    """The number of the first word of a text of a table that cannot stand there, or that is missing, or None."""
    shapes = [["halves", int, int]]
    for size in range(12):
        shapes.append(["pairs"] + [int] * size + ["/", int, int, "/", int, int, "/", int, "/", int])
    reached = 0
    for shape in shapes:
        fits = 0
        while fits < min(len(shape), len(words)):
            kind, word = shape[fits], words[fits]
            if not (is_integer(word) if kind is int else word == kind):
                break
            fits += 1
        if fits == len(shape) == len(words):
            return None
        reached = max(reached, fits)
    return reached + 1


def table_of(words):
    if words[0] == "halves":
        return ("halves", int(words[1]), int(words[2]))
    parts = " ".join(words[1:]).split("/")
    header, zero, one, stop, bits = [tuple(int(word) for word in part.split()) for part in parts]
    return ("pairs", header, zero, one, *stop, *bits)


class BurstTextTest(Refusals):
    def test_both_ways(self):
        for burst, text in (
            (ratios(1), "1"), (ratios(1, Fraction(5, 4), 1), "1 5/4 1"),
            (ratios(Fraction(1, 3), 7, Fraction(22, 7)), "1/3 7 22/7"),
            ((Ratio(6, 4), Ratio(8, 2), Ratio(10 ** 39, 10 ** 39 - 1)), f"3/2 4 1{'0' * 39}/{'9' * 39}"),
            (tuple(Ratio(1, at + 1) for at in range(63)), "1 " + " ".join(f"1/{at}" for at in range(2, 64))),
            ((Ratio(7, 2),) * 63, " ".join(["7/2"] * 63)),
        ):
            self.assertEqual(burst_text(burst), text)
            self.assertEqual(burst_text(burst=burst), text)
            self.assertEqual(read_burst(text), burst)
            self.assertEqual(read_burst(text=text), burst)
            self.assertIs(type(read_burst(text)), tuple)

    def test_ratios_that_are_not_in_lowest_terms(self):
        self.assertEqual(read_burst("2/2 6/4 10/5"), ratios(1, Fraction(3, 2), 2))
        self.assertEqual(burst_text(read_burst("4/6")), "2/3")

    def test_ratios_of_many_digits_are_written(self):
        long = 10 ** 999
        self.assertEqual(burst_text((Ratio(long), Ratio(1, long), Ratio(2))), f"1{'0' * 999} 1/1{'0' * 999} 2")

    def test_bad_burst(self):
        for thing in (
            None, "1 1 1", [Ratio(1)], (), (Ratio(1),) * 2, (Ratio(0),), (Ratio(1),) * 65, (1, 1, 1), Ratio(1),
        ):
            with self.assertRaises(BadBurst) as caught:
                burst_text(thing)
            self.assertIs(caught.exception.given, thing)

    def test_the_first_word_that_is_no_ratio(self):
        wrong = (
            "", "x", "/", "1/", "/1", "1/0", "0/0", "01", "1/01", "00", "-1", "+1", "1.5", "1/2/3", "1e3", "1\n", "\n",
            "1" * 41, "1/" + "1" * 41, "1/-2", "1_0", "None",
        )
        for word in wrong:
            for size in (1, 2, 3, 63, 64, 65):
                for at in sorted({0, size // 2, size - 1}):
                    words = ["1"] * size
                    words[at] = word
                    self.refused(read_burst, " ".join(words), at + 1)
                    self.refused(read_burst, " ".join(words[:at + 1] + [word] * 3), at + 1)

    def test_empty_words(self):
        for text, word in (
            ("", 1), (" ", 1), ("  ", 1), ("1 ", 2), (" 1", 1), ("1  1", 2), ("1 1 1 ", 4), ("1 1  1", 3),
            ("1\n1", 1), ("1 1\n1 1", 2), ("0 1 ", 3),
        ):
            self.refused(read_burst, text, word)

    def test_what_is_no_string(self):
        for thing in NO_STRINGS + NO_RATIOS:
            if not isinstance(thing, str):
                self.refused(read_burst, thing, 0)

    def test_then_what_is_no_burst(self):
        for text, burst in (
            ("1 1", ratios(1, 1)), ("0", ratios(0)), ("1 0 1", ratios(1, 0, 1)), ("1 1 0/7", ratios(1, 1, 0)),
            (" ".join(["1"] * 64), ratios(*[1] * 64)), (" ".join(["1"] * 65), ratios(*[1] * 65)),
            (" ".join(["3/2"] * 1000), (Ratio(3, 2),) * 1000),
        ):
            with self.subTest(text=text):
                with self.assertRaises(BadBurst) as caught:
                    read_burst(text)
                self.assertEqual(caught.exception.given, burst)


if __name__ == "__main__":
    unittest.main()
