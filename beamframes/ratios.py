"""Ratios: fractions of at least 0, exact at any size."""

from math import gcd

from beamframes.errors import BadRatio
from beamframes.whole import decimal_of, is_numeral, is_whole

MOST_DIGITS = 40


class Ratio:
    """A fraction of at least 0, kept in lowest terms."""

    def __init__(self, num, den=1):
        if not (is_whole(num) and is_whole(den) and num >= 0 and den >= 1):
            raise BadRatio((num, den))
        shared = gcd(num, den)
        self._num = num // shared
        self._den = den // shared

    @classmethod
    def read(cls, text):
        """The ratio with a text, which need not be in lowest terms."""
        if not isinstance(text, str):
            raise BadRatio(text)
        num, bar, den = text.partition("/")
        if not bar:
            den = "1"
        if not (is_numeral(num, MOST_DIGITS) and is_numeral(den, MOST_DIGITS)) or den == "0":
            raise BadRatio(text)
        return cls(int(num), int(den))

    @property
    def num(self):
        """The numerator in lowest terms."""
        return self._num

    @property
    def den(self):
        """The denominator in lowest terms."""
        return self._den

    def __str__(self):
        if self._den == 1:
            return f"{decimal_of(self._num)}"
        return f"{decimal_of(self._num)}/{decimal_of(self._den)}"

    def __eq__(self, other):
        return isinstance(other, Ratio) and self._num == other._num and self._den == other._den

    def __lt__(self, other):
        if not isinstance(other, Ratio):
            return NotImplemented
        return self._num * other._den < other._num * self._den

    def __le__(self, other):
        if not isinstance(other, Ratio):
            return NotImplemented
        return self._num * other._den <= other._num * self._den

    def __gt__(self, other):
        if not isinstance(other, Ratio):
            return NotImplemented
        return self._num * other._den > other._num * self._den

    def __ge__(self, other):
        if not isinstance(other, Ratio):
            return NotImplemented
        return self._num * other._den >= other._num * self._den

    def __add__(self, other):
        if not isinstance(other, Ratio):
            return NotImplemented
        return Ratio(self._num * other._den + other._num * self._den, self._den * other._den)

    def __mul__(self, other):
        if not isinstance(other, Ratio):
            return NotImplemented
        return Ratio(self._num * other._num, self._den * other._den)


def need_ratio(thing):
    """The ratio itself; BadRatio of what is no Ratio."""
    if not isinstance(thing, Ratio):
        raise BadRatio(thing)
    return thing


def is_below_one(thing):
    """Whether a thing is a Ratio less than 1."""
    return isinstance(thing, Ratio) and thing.num < thing.den
