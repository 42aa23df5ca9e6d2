"""Texts of tables and of bursts, written and read."""

from beamframes.bursts import need_burst
from beamframes.errors import BadRatio, BadText
from beamframes.frames import is_pairs
from beamframes.ratios import Ratio
from beamframes.tables import need_table
from beamframes.whole import is_numeral

MOST_DIGITS = 5
# What has to stand behind the first word, and behind the numbers of HEADER.
HALVES_SHAPE = ("number", "number")
PAIRS_SHAPE = ("/", "number", "number", "/", "number", "number", "/", "number", "/", "number")


def table_text(table):
    """The text of a table."""
    need_table(table)
    words = table
    if is_pairs(table):
        name, header, zero, one, stop, bits = table
        words = (name, *header, "/", *zero, "/", *one, "/", stop, "/", bits)
    return " ".join([str(word) for word in words])


def burst_text(burst):
    """The text of a burst."""
    need_burst(burst)
    return " ".join([str(item) for item in burst])


def read_table(text):
    """The table with a text; BadText with the number of the first word that cannot stand there, or is missing."""
    words = split_text(text)
    if words[0] == "pairs":
        return need_table(read_pairs(words[1:]))
    if words[0] == "halves":
        unit, bits = numbers_by(HALVES_SHAPE, words[1:])
        return need_table(("halves", unit, bits))
    raise BadText(1)


def read_burst(text):
    """The burst with a text; BadText with the number of the first word that is no text of a ratio."""
    items = [ratio_of_word(word, at + 1) for at, word in enumerate(split_text(text))]
    return need_burst(tuple(items))


def split_text(text):
    """The list of the words of a text; BadText of what is no string."""
    if not isinstance(text, str):
        raise BadText(0)
    return text.split(" ")


def read_pairs(words):
    """What the words behind "pairs" say, which need not be a table."""
    size = count_of_numbers(words)
    numbers = numbers_by(("number",) * size + PAIRS_SHAPE, words)
    header, others = numbers[:size], numbers[size:]
    return ("pairs", tuple(header), tuple(others[:2]), tuple(others[2:4]), others[4], others[5])


def count_of_numbers(words):
    """How many words at the beginning are numbers."""
    for at, word in enumerate(words):
        if not is_numeral(word, MOST_DIGITS):
            return at
    return len(words)


def numbers_by(shape, words):
    """The list of the numbers in the words behind the first one, which have to be as a shape tells."""
    numbers = []
    # Numbers of words begin with 1, and the first word is not among these.
    for at, kind in enumerate(shape):
        if at >= len(words) or not is_as(kind, words[at]):
            raise BadText(at + 2)
        if kind == "number":
            numbers.append(int(words[at]))
    if len(words) > len(shape):
        raise BadText(len(shape) + 2)
    return numbers


def is_as(kind, word):
    """Whether a word is as its place in a shape tells."""
    if kind == "number":
        return is_numeral(word, MOST_DIGITS)
    return word == kind


def ratio_of_word(word, number):
    """The ratio with a text; BadText with the number of this word if it is none."""
    try:
        return Ratio.read(word)
    except BadRatio:
        raise BadText(number) from None
