"""Ratios: lowest terms, texts, comparisons, sums and products."""

import unittest
from fractions import Fraction
from math import gcd

from beamframes.errors import BadRatio
from beamframes.ratios import Ratio

NO_INTEGERS = (True, False, None, "1", "", b"1", (1,), (), [1], {}, 1.0, Fraction(1), object())
BIG = 10 ** 30 + 57
BIGGER = 7 ** 60
PAIRS = (
    (0, 1), (0, 7), (1, 1), (1, 2), (2, 4), (2, 3), (3, 2), (5, 4), (7, 7), (99999, 1), (1, 99999),
    (BIG, 1), (BIG, BIGGER), (BIGGER, BIG), (BIG + 1, BIGGER), (BIG * 6, BIGGER * 4), (1, BIGGER),
    (BIG, BIG + 1), (BIG + 1, BIG + 2), (10 ** 999, 3), (3, 10 ** 999),
)
WRONG_TEXTS = (
    "", "/", "1/", "/1", "1/0", "0/0", "1//2", "1/2/3", "1/2/", "/1/2", "00", "01", "007", "1/01", "1/00", "0/01",
    "-1", "+1", "-0", "1/-2", "1/+2", " 1", "1 ", "1 /2", "1/ 2", "1 2", "\n", "1\n", "\n1", "1/2\n", "1\n/2",
    "1.0", "1,0", "1e3", "1_000", "0x1", "x", "1x", "one", "1/x", "1:2", "1\\2", "~", "1;",
    "1" + "0" * 40, "9" * 41, "1/" + "9" * 41, "9" * 41 + "/1", "0" * 41, "1" * 60 + "/" + "1" * 60, "1" * 5000,
)


class MakingTest(unittest.TestCase):
    def refused(self, given, call):
        with self.assertRaises(BadRatio) as caught:
            call()
        self.assertEqual(len(caught.exception.given), len(given))
        for kept, told in zip(caught.exception.given, given):
            self.assertIs(kept, told)
        self.assertIs(type(caught.exception.given), tuple)

    def test_lowest_terms(self):
        for num, den in PAIRS:
            with self.subTest(num=str(num)[:9], den=str(den)[:9]):
                ratio = Ratio(num, den)
                shared = gcd(num, den)
                self.assertEqual([ratio.num, ratio.den], [num // shared, den // shared])
                self.assertIs(type(ratio.num), int)
                self.assertIs(type(ratio.den), int)

    def test_zero_has_the_den_one(self):
        self.assertEqual([Ratio(0, 12).num, Ratio(0, 12).den], [0, 1])

    def test_default_den_is_one(self):
        for num in (0, 1, 12, BIG):
            self.assertEqual([Ratio(num).num, Ratio(num).den], [num, 1])

    def test_parameters_by_name(self):
        self.assertEqual([Ratio(num=6, den=4).num, Ratio(den=4, num=6).den, Ratio(num=3).den], [3, 2, 1])
        self.assertEqual(Ratio.read(text="6/4"), Ratio(3, 2))

    def test_what_is_no_integer_is_refused(self):
        for thing in NO_INTEGERS:
            with self.subTest(thing=thing):
                self.refused((thing, 1), lambda: Ratio(thing))
                self.refused((thing, 2), lambda: Ratio(thing, 2))
                self.refused((2, thing), lambda: Ratio(2, thing))
                self.refused((2, thing), lambda: Ratio(num=2, den=thing))
                self.refused((thing, thing), lambda: Ratio(thing, thing))

    def test_a_ratio_is_no_integer(self):
        one = Ratio(1)
        self.refused((one, 1), lambda: Ratio(one))
        self.refused((1, one), lambda: Ratio(1, one))

    def test_numbers_below_their_bounds_are_refused(self):
        for num, den in ((-1, 1), (-1, 2), (1, 0), (0, 0), (1, -1), (-1, -1), (-2, -4), (0, -1), (-BIG, 1), (1, -BIG)):
            with self.subTest(num=num, den=den):
                self.refused((num, den), lambda: Ratio(num, den))
        self.refused((-1, 1), lambda: Ratio(-1))


class TextTest(unittest.TestCase):
    def test_str(self):
        for ratio, text in (
            (Ratio(0), "0"), (Ratio(0, 5), "0"), (Ratio(1), "1"), (Ratio(4, 2), "2"), (Ratio(6, 4), "3/2"),
            (Ratio(1, 3), "1/3"), (Ratio(10, 100), "1/10"), (Ratio(100, 10), "10"), (Ratio(1000, 1001), "1000/1001"),
        ):
            self.assertEqual(str(ratio), text)

    def test_str_of_big_ratios(self):
        for num, den in ((BIG, BIGGER), (10 ** 64, 3), (10 ** 64 - 1, 10 ** 64), (10 ** 65 + 5, 1), (10 ** 999, 7)):
            found = str(Ratio(num, den))
            self.assertEqual(found, str(num) if den == 1 else f"{num}/{den}")

    def test_str_of_what_grew_by_products(self):
        ratio = Ratio(1)
        for _ in range(4):
            ratio = ratio * Ratio(10 ** 999)
        self.assertTrue(str(ratio) == "1" + "0" * 3996)
        self.assertTrue(str(ratio + Ratio(12)) == "1" + "0" * 3994 + "12")

    def test_read(self):
        for text, num, den in (
            ("0", 0, 1), ("1", 1, 1), ("9", 9, 1), ("10", 10, 1), ("1203", 1203, 1), ("1/4", 1, 4), ("5/4", 5, 4),
            ("4/6", 2, 3), ("6/3", 2, 1), ("0/5", 0, 1), ("0/1", 0, 1), ("7/1", 7, 1), ("100/10", 10, 1),
            ("9" * 40, 10 ** 40 - 1, 1), ("1" + "0" * 39, 10 ** 39, 1),
            ("1/" + "9" * 40, 1, 10 ** 40 - 1), ("9" * 40 + "/1" + "0" * 39, 10 ** 40 - 1, 10 ** 39),
            ("9" * 40 + "/" + "3" * 40, 3, 1),
        ):
            with self.subTest(text=text):
                ratio = Ratio.read(text)
                self.assertIs(type(ratio), Ratio)
                self.assertEqual([ratio.num, ratio.den], [num, den])

    def test_read_takes_every_text_of_a_ratio(self):
        for num in range(0, 31):
            for den in range(1, 31):
                ratio = Ratio(num, den)
                self.assertEqual(Ratio.read(str(ratio)), ratio)
                self.assertEqual(Ratio.read(f"{num}/{den}"), ratio)

    def test_read_refuses_other_texts(self):
        for text in WRONG_TEXTS:
            with self.subTest(text=text[:50]):
                with self.assertRaises(BadRatio) as caught:
                    Ratio.read(text)
                self.assertEqual(caught.exception.given, text)

    def test_read_refuses_each_character_that_is_no_digit(self):
        for code in [10] + [code for code in range(32, 127) if code != 37]:
            if chr(code).isdigit():
                continue
            for text in (chr(code), chr(code) + "2", "2" + chr(code), "2/" + chr(code), "2/3" + chr(code)):
                with self.subTest(text=text):
                    with self.assertRaises(BadRatio) as caught:
                        Ratio.read(text)
                    self.assertEqual(caught.exception.given, text)

    def test_read_refuses_what_is_no_string(self):
        for thing in (None, True, False, 1, 0, 1.0, b"1", b"1/2", ("1",), ["1"], [], {}, Ratio(1), object()):
            with self.subTest(thing=thing):
                with self.assertRaises(BadRatio) as caught:
                    Ratio.read(thing)
                self.assertIs(caught.exception.given, thing)


class ComparingTest(unittest.TestCase):
    def test_comparisons_are_by_values(self):
        for one_pair in PAIRS:
            for other_pair in PAIRS:
                one, other = Ratio(*one_pair), Ratio(*other_pair)
                first, second = Fraction(*one_pair), Fraction(*other_pair)
                found = [one == other, one != other, one < other, one <= other, one > other, one >= other]
                told = [first == second, first != second, first < second,
                        first <= second, first > second, first >= second]
                self.assertTrue(found == told)
                self.assertTrue(all(answer is True or answer is False for answer in found))

    def test_equal_ratios(self):
        self.assertTrue(Ratio(2, 4) == Ratio(1, 2))
        self.assertFalse(Ratio(2, 4) != Ratio(1, 2))
        self.assertTrue(Ratio(1, 2) <= Ratio(2, 4))
        self.assertTrue(Ratio(1, 2) >= Ratio(2, 4))
        self.assertFalse(Ratio(1, 2) < Ratio(2, 4))
        self.assertFalse(Ratio(1, 2) > Ratio(2, 4))
        self.assertFalse(Ratio(1, 2) == Ratio(1, 3))
        self.assertFalse(Ratio(1, 2) == Ratio(3, 2))

    def test_nothing_else_is_equal_to_a_ratio(self):
        for thing in (1, 0, True, 1.0, "1", "1/1", None, (1, 1), (1,), [1, 1], Fraction(1), object()):
            with self.subTest(thing=thing):
                self.assertIs(Ratio(1) == thing, False)
                self.assertIs(Ratio(1) != thing, True)
                self.assertIs(Ratio(0) == thing, False)
        self.assertIs(1 == Ratio(1), False)
        self.assertIs("1" == Ratio(1), False)

    def test_other_objects_are_not_compared(self):
        for thing in (1, 0, True, 1.0, "1", None, (1, 1), [1], Fraction(1), object()):
            for call in (
                lambda: Ratio(1) < thing, lambda: Ratio(1) <= thing, lambda: Ratio(1) > thing,
                lambda: Ratio(1) >= thing, lambda: thing < Ratio(1), lambda: thing <= Ratio(1),
                lambda: thing > Ratio(1), lambda: thing >= Ratio(1),
            ):
                with self.subTest(thing=thing):
                    self.assertRaises(TypeError, call)


class CountingTest(unittest.TestCase):
    def test_sums_and_products(self):
        for one_pair in PAIRS:
            for other_pair in PAIRS:
                one, other = Ratio(*one_pair), Ratio(*other_pair)
                for found, told in (
                    (one + other, Fraction(*one_pair) + Fraction(*other_pair)),
                    (one * other, Fraction(*one_pair) * Fraction(*other_pair)),
                ):
                    self.assertIs(type(found), Ratio)
                    self.assertTrue(found.num == told.numerator and found.den == told.denominator)

    def test_the_ratios_themselves_stay(self):
        one, other = Ratio(1, 2), Ratio(1, 3)
        one + other
        one * other
        kept = one
        kept += other
        kept *= other
        self.assertEqual([one.num, one.den, other.num, other.den], [1, 2, 1, 3])
        self.assertEqual([kept.num, kept.den], [5, 18])

    def test_other_objects_are_not_counted_with(self):
        for thing in (1, 0, 2, True, 1.0, "1", None, (1, 1), [1], Fraction(1), object()):
            for call in (
                lambda: Ratio(1) + thing, lambda: Ratio(1) * thing,
                lambda: thing + Ratio(1), lambda: thing * Ratio(1),
            ):
                with self.subTest(thing=thing):
                    self.assertRaises(TypeError, call)

    def test_equal_calls_give_equal_results(self):
        self.assertEqual(Ratio(6, 4), Ratio(6, 4))
        self.assertEqual(Ratio.read("6/4"), Ratio.read("6/4"))
        self.assertEqual(Ratio(1, 2) + Ratio(1, 3), Ratio(1, 2) + Ratio(1, 3))

    def test_what_the_interface_lists_is_in_the_class_itself(self):
        self.assertEqual(Ratio.__module__, "beamframes.ratios")
        for name in ("read", "num", "den"):
            self.assertIn(name, vars(Ratio))


if __name__ == "__main__":
    unittest.main()
