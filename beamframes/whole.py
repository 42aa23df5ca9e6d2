"""Integers that are no bools, and their decimal digits: what all other files share."""

CHUNK_WIDTH = 64
CHUNK = 10 ** 64


def is_whole(thing):
    """Whether a thing is an integer; True and False are none."""
    return isinstance(thing, int) and not isinstance(thing, bool)


def is_whole_from(thing, low, high):
    """Whether a thing is an integer from low to high."""
    return is_whole(thing) and low <= thing <= high


def is_numeral(text, most):
    """Whether a string is 1 to most decimal digits without needless zeros."""
    # isdigit alone would let digits of other scripts through.
    if not (text.isascii() and text.isdigit()) or len(text) > most:
        return False
    return text == "0" or not text.startswith("0")


def decimal_of(number):
    """The decimal digits of an integer that is at least 0."""
    # str refuses numbers of more than 4300 digits, and sums and products of ratios grow beyond that.
    chunks = []
    left = number
    while left >= CHUNK:
        chunks.append(str(left % CHUNK).zfill(CHUNK_WIDTH))
        left = left // CHUNK
    chunks.append(str(left))
    return "".join(chunks[::-1])
