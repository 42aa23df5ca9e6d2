"""Bursts: durations that were measured, and how near they come to frames."""

from beamframes.errors import BadBurst
from beamframes.frames import frame_of
from beamframes.ratios import Ratio, need_ratio
from beamframes.tables import need_table, words_of

MOST_ITEMS = 63


def need_burst(thing):
    """The burst itself; BadBurst of what is none."""
    if not is_burst(thing):
        raise BadBurst(thing)
    return thing


def is_within(burst, frame, tolerance):
    """Whether a burst is within a tolerance of a frame."""
    need_burst(burst)
    need_ratio(tolerance)
    return fits(burst, frame, tolerance)


def nearest(table, burst):
    """The least tolerance within which a burst is of some frame, and the least word with such a frame; or None."""
    need_table(table)
    need_burst(burst)
    found = None
    for word in words_of(table):
        frame = frame_of(table, word)
        if len(frame) == len(burst):
            tolerance = greatest_off(burst, frame)
            # The words ascend: a later one that is no nearer must not take the place of an earlier one.
            if found is None or tolerance < found[0]:
                found = (tolerance, word)
    return found


def is_burst(thing):
    """Whether a thing is a burst."""
    if not isinstance(thing, tuple) or len(thing) > MOST_ITEMS or len(thing) % 2 == 0:
        return False
    return all([is_above_zero(item) for item in thing])


def is_above_zero(thing):
    """Whether a thing is a Ratio above 0."""
    return isinstance(thing, Ratio) and thing.num > 0


def fits(burst, frame, tolerance):
    """Whether what is surely a burst is within what is surely a ratio of a frame."""
    if len(burst) != len(frame):
        return False
    for item, duration in zip(burst, frame):
        if off_by(item, duration) > tolerance:
            return False
    return True


def greatest_off(burst, frame):
    """The least tolerance within which a burst is of a frame with as many items."""
    greatest = Ratio(0)
    for item, duration in zip(burst, frame):
        off = off_by(item, duration)
        if off > greatest:
            greatest = off
    return greatest


def off_by(item, duration):
    """The least tolerance within which an item is of a duration: their difference, divided by the duration."""
    duration_parts = duration * item.den
    return Ratio(abs(item.num - duration_parts), duration_parts)
