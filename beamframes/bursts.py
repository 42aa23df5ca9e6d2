"""Bursts: durations that were measured, and how near they come to frames."""

from beamframes.errors import BadBurst
from beamframes.frames import begin_of, part_of, under_way_at
from beamframes.ratios import Ratio, need_ratio
from beamframes.tables import bits_of, need_table

MOST_ITEMS = 63


def need_burst(thing):
    """The burst itself; BadBurst of what is none."""
    if not is_burst(thing):
        raise BadBurst(thing)
    return thing


def is_within(burst, frame, tolerance):
    """Whether a burst is within a tolerance of a frame."""
    need_burst(burst)
    need_ratio(tolerance)
    return fits(burst, frame, tolerance)


def nearest(table, burst):
    """The least tolerance within which a burst is of some frame, and the least word with such a frame; or None."""
    need_table(table)
    need_burst(burst)
    tolerance = least_off(table, burst)
    if tolerance is None:
        return None
    return (tolerance, least_word(table, burst, tolerance))


def is_burst(thing):
    """Whether a thing is a burst."""
    if not isinstance(thing, tuple) or len(thing) > MOST_ITEMS or len(thing) % 2 == 0:
        return False
    return all([is_above_zero(item) for item in thing])


def is_above_zero(thing):
    """Whether a thing is a Ratio above 0."""
    return isinstance(thing, Ratio) and thing.num > 0


def fits(burst, frame, tolerance):
    """Whether what is surely a burst is within what is surely a ratio of a frame."""
    return len(burst) == len(frame) and fits_at(burst, 0, frame, tolerance)


def least_word(table, burst, tolerance):
    """The least word with a frame that a burst is within a tolerance of, or None."""
    lead = begin_of(table)[1]
    if not fits_at(burst, 0, lead, tolerance):
        return None
    # Frames that have as many durations up to some bit go on alike, so of these the least beginning is enough.
    words = {len(lead): ()}
    for legs in legs_of(table, len(burst)):
        further = {}
        for at, bit, part in legs:
            if at in words and fits_at(burst, at, part, tolerance):
                word = words[at] + (bit,)
                led = at + len(part)
                if led not in further or word < further[led]:
                    further[led] = word
        words = further
    return words.get(len(burst))


def least_off(table, burst):
    """The least tolerance within which a burst is of some frame of a table, or None."""
    lead = begin_of(table)[1]
    offs = {len(lead): greatest_off(burst, 0, lead, Ratio(0))}
    for legs in legs_of(table, len(burst)):
        further = {}
        for at, _, part in legs:
            off = greatest_off(burst, at, part, offs[at])
            led = at + len(part)
            if led not in further or off < further[led]:
                further[led] = off
        offs = further
    return offs.get(len(burst))


def legs_of(table, size):
    """For each bit of a word the list of what it may add to a frame of at most so many durations.

    This is triples (how many durations come ahead, the bit, the durations that it adds).
    """
    bits = bits_of(table)
    sizes = [len(begin_of(table)[1])]
    all_legs = []
    for known in range(1, bits + 1):
        legs = []
        further = {}
        for at in sizes:
            for bit in (0, 1):
                part = part_of(table, under_way_at(table, at), bit, known == bits)
                if at + len(part) <= size:
                    legs.append((at, bit, part))
                    further[at + len(part)] = True
        sizes = list(further)
        all_legs.append(legs)
    return all_legs


def fits_at(burst, at, durations, tolerance):
    """Whether the items of a burst from an index on are within a tolerance of durations."""
    for item, duration in zip(burst[at:], durations):
        if not is_near(item, duration, tolerance):
            return False
    return True


def is_near(item, duration, tolerance):
    """Whether the difference of an item and a duration is at most so much of the duration."""
    duration_parts = duration * item.den
    return abs(item.num - duration_parts) * tolerance.den <= tolerance.num * duration_parts


def greatest_off(burst, at, durations, least):
    """The least tolerance, but no less than one, within which the items from an index on are of durations."""
    greatest = least
    for item, duration in zip(burst[at:], durations):
        off = off_by(item, duration)
        if off > greatest:
            greatest = off
    return greatest


def off_by(item, duration):
    """The least tolerance within which an item is of a duration: their difference, divided by the duration."""
    duration_parts = duration * item.den
    return Ratio(abs(item.num - duration_parts), duration_parts)
