"""Frames: the pulses and gaps of a word, written at once or read step by step."""

from beamframes.errors import BadWord
from beamframes.tables import bits_of, is_word, need_table, words_of
from beamframes.whole import is_whole


def frame_of(table, word):
    """The frame of a word: a tuple of durations, of a pulse and a gap by turns."""
    if not is_word(table, word):
        raise BadWord(word)
    frame = list(begin_of(table)[1])
    for at, bit in enumerate(word):
        frame.extend(part_of(table, under_way_at(table, len(frame)), bit, at + 1 == len(word)))
    return tuple(frame)


def word_of(table, frame):
    """The word with a frame, or None for any other object."""
    need_table(table)
    # For Python (True, 1) and (1.0, 1) are equal to (1, 1), but they are no frames.
    if not isinstance(frame, tuple) or not all([is_whole(part) for part in frame]):
        return None
    for word in words_of(table):
        if frame_of(table, word) == frame:
            return word
    return None


def begin_of(table):
    """The place at which nothing of a frame is read."""
    need_table(table)
    if is_pairs(table):
        return (0, table[1], "")
    return (0, (table[1],), "gap")


def is_end(table, place):
    """Whether a place is one at which a whole frame is read."""
    need_table(table)
    known, rest, _ = place
    return known == bits_of(table) and rest == ()


def steps_of(table, place):
    """The list of the steps from a place: triples (bit, duration, place)."""
    if is_end(table, place):
        return []
    if place[1] != ():
        return [step_from(None, place)]
    return [step_from(bit, settled(table, place, bit)) for bit in (0, 1)]


def is_pairs(table):
    """Whether a table is one of pairs; otherwise it is one of halves."""
    return table[0] == "pairs"


def under_way_at(table, size):
    """What is under way behind some bits of a frame, as OPEN tells it, where so many durations come ahead of it."""
    if is_pairs(table):
        return ""
    return "pulse" if size % 2 == 0 else "gap"


def part_of(table, under_way, bit, is_last):
    """The durations that a bit adds to a frame in which something is under way; the last bit adds the end, too."""
    if is_pairs(table):
        zero, one, stop = table[2:5]
        part = one if bit == 1 else zero
        return (*part, stop) if is_last else part
    unit = table[1]
    part = (2 * unit,) if first_half(bit) == under_way else (unit, unit)
    # A gap at the end cannot be told from the silence behind it, but a pulse is there.
    if is_last and half_behind(under_way, part) == "pulse":
        return (*part, unit)
    return part


def half_behind(under_way, part):
    """What is under way behind a part of a frame."""
    return under_way if len(part) == 2 else other_half(under_way)


def first_half(bit):
    """What the first half of a bit of halves is."""
    return "pulse" if bit == 1 else "gap"


def other_half(half):
    """What comes behind a half within one bit."""
    return "gap" if half == "pulse" else "pulse"


def settled(table, place, bit):
    """The place, not read further, at which a bit is settled behind a place without rest."""
    known, _, under_way = place
    is_last = known + 1 == bits_of(table)
    rest = part_of(table, under_way, bit, is_last)
    if under_way != "":
        under_way = "gap" if is_last else half_behind(under_way, rest)
    return (known + 1, rest, under_way)


def step_from(bit, place):
    """The step that reads the first duration of a place's rest."""
    known, rest, under_way = place
    return (bit, rest[0], (known, rest[1:], under_way))
