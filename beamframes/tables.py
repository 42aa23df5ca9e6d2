"""Tables: what tells the durations of a code, and the words for them."""

from beamframes.errors import BadTable
from beamframes.whole import is_whole_from

MOST_DURATION = 99999
MOST_BITS = 8


def need_table(thing):
    """The table itself; BadTable with the first part that is not as described."""
    if begins_with(thing, "pairs", 6):
        wrong = wrong_part_of_pairs(thing)
    elif begins_with(thing, "halves", 3):
        wrong = wrong_part_of_halves(thing)
    else:
        wrong = "form"
    if wrong is not None:
        raise BadTable(wrong)
    return thing


def is_word(table, thing):
    """Whether a thing is a word for a table."""
    need_table(table)
    if not isinstance(thing, tuple) or len(thing) != bits_of(table):
        return False
    return all([is_whole_from(bit, 0, 1) for bit in thing])


def words_of(table):
    """The ascending list of all words for a table."""
    need_table(table)
    words = [()]
    for _ in range(bits_of(table)):
        words = [(*word, bit) for word in words for bit in (0, 1)]
    return words


def bits_of(table):
    """How many bits a word for a table has."""
    return table[-1]


def begins_with(thing, name, size):
    """Whether a thing is a tuple of as many things as told that begins with a name."""
    if not isinstance(thing, tuple) or len(thing) != size:
        return False
    return isinstance(thing[0], str) and thing[0] == name


def wrong_part_of_pairs(thing):
    """The first part of six things that makes them no table, or None."""
    header, zero, one, stop, bits = thing[1:]
    if not (are_durations(header) and len(header) in (0, 2, 4)):
        return "header"
    if not is_pulse_and_gap(zero):
        return "zero"
    if not is_pulse_and_gap(one) or one == zero:
        return "one"
    if not is_duration(stop):
        return "stop"
    if not is_bit_count(bits):
        return "bits"
    return None


def wrong_part_of_halves(thing):
    """The first part of three things that makes them no table, or None."""
    if not is_duration(thing[1]):
        return "unit"
    if not is_bit_count(thing[2]):
        return "bits"
    return None


def is_duration(thing):
    """Whether a thing is a duration."""
    return is_whole_from(thing, 1, MOST_DURATION)


def are_durations(thing):
    """Whether a thing is a tuple of durations alone."""
    return isinstance(thing, tuple) and all([is_duration(part) for part in thing])


def is_pulse_and_gap(thing):
    """Whether a thing is a pair of durations, first the pulse, then the gap."""
    return are_durations(thing) and len(thing) == 2


def is_bit_count(thing):
    """Whether a thing can be the number of bits of a word."""
    return is_whole_from(thing, 1, MOST_BITS)
