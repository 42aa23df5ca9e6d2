"""Receivers: tables, each with a tolerance, and what they read."""

from beamframes.bursts import least_word, need_burst
from beamframes.errors import BadReceiver, BadTable
from beamframes.frames import frame_of
from beamframes.ratios import is_below_one
from beamframes.tables import is_word, need_table
from beamframes.whole import is_whole_from

MOST_PAIRS = 4


def need_receiver(thing):
    """The receiver itself; BadReceiver with the index of the first wrong pair, or None."""
    if not isinstance(thing, tuple) or not 1 <= len(thing) <= MOST_PAIRS:
        raise BadReceiver(None)
    for index, pair in enumerate(thing):
        if not is_table_with_tolerance(pair):
            raise BadReceiver(index)
    return thing


def reads(receiver, burst):
    """The sending (index, word) as which a receiver reads a burst, or None."""
    need_receiver(receiver)
    need_burst(burst)
    for index, (table, tolerance) in enumerate(receiver):
        word = least_word(table, burst, tolerance)
        if word is not None:
            return (index, word)
    return None


def is_sending(receiver, thing):
    """Whether a thing is a pair of an index of a receiver and a word for the table there."""
    need_receiver(receiver)
    if not is_pair(thing) or not is_whole_from(thing[0], 0, len(receiver) - 1):
        return False
    return is_word(receiver[thing[0]][0], thing[1])


def frame_of_sending(receiver, sending):
    """The frame of a sending."""
    index, word = sending
    return frame_of(receiver[index][0], word)


def is_pair(thing):
    """Whether a thing is a tuple of two things."""
    return isinstance(thing, tuple) and len(thing) == 2


def is_table_with_tolerance(thing):
    """Whether a thing is a pair of a table and a tolerance that a receiver may have."""
    return is_pair(thing) and is_table(thing[0]) and is_below_one(thing[1])


def is_table(thing):
    """Whether a thing is a table."""
    try:
        need_table(thing)
    except BadTable:
        return False
    return True
