"""Frames: the pulses and gaps of a word, written at once or read step by step."""

from beamframes.errors import BadWord
from beamframes.tables import bits_of, is_word, need_table, words_of
from beamframes.whole import is_whole


def frame_of(table, word):
    """The frame of a word: a tuple of durations, of a pulse and a gap by turns."""
    if not is_word(table, word):
        raise BadWord(word)
    if is_pairs(table):
        return frame_of_pairs(table, word)
    return frame_of_halves(table, word)


def word_of(table, frame):
    """The word with a frame, or None for any other object."""
    need_table(table)
    # For Python (True, 1) and (1.0, 1) are equal to (1, 1), but they are no frames.
    if not isinstance(frame, tuple) or not all([is_whole(part) for part in frame]):
        return None
    for word in words_of(table):
        if frame_of(table, word) == frame:
            return word
    return None


def begin_of(table):
    """The place at which nothing of a frame is read."""
    need_table(table)
    if is_pairs(table):
        return (0, table[1], "")
    return (0, (table[1],), "gap")


def is_end(table, place):
    """Whether a place is one at which a whole frame is read."""
    need_table(table)
    known, rest, _ = place
    return known == bits_of(table) and rest == ()


def steps_of(table, place):
    """The list of the steps from a place: triples (bit, duration, place)."""
    if is_end(table, place):
        return []
    if place[1] != ():
        return [step_from(None, place)]
    return [step_from(bit, settled(table, place, bit)) for bit in (0, 1)]


def is_pairs(table):
    """Whether a table is one of pairs; otherwise it is one of halves."""
    return table[0] == "pairs"


def frame_of_pairs(table, word):
    """The frame of a word for a table of pairs."""
    header, zero, one, stop = table[1:5]
    frame = list(header)
    for bit in word:
        frame.extend(one if bit == 1 else zero)
    frame.append(stop)
    return tuple(frame)


def frame_of_halves(table, word):
    """The frame of a word for a table of halves."""
    unit = table[1]
    halves = ["pulse", "gap"]
    for bit in word:
        halves.extend([first_half(bit), other_half(first_half(bit))])
    # A gap at the end cannot be told from the silence behind it.
    if halves[-1] == "gap":
        halves.pop()
    frame = [unit]
    for before, half in zip(halves, halves[1:]):
        if half == before:
            frame[-1] += unit
        else:
            frame.append(unit)
    return tuple(frame)


def first_half(bit):
    """What the first half of a bit of halves is."""
    return "pulse" if bit == 1 else "gap"


def other_half(half):
    """What comes behind a half within one bit."""
    return "gap" if half == "pulse" else "pulse"


def settled(table, place, bit):
    """The place, not read further, at which a bit is settled behind a place without rest."""
    known = place[0] + 1
    is_last = known == bits_of(table)
    if is_pairs(table):
        rest, under_way = settled_pairs(table, bit, is_last)
    else:
        rest, under_way = settled_halves(table[1], place[2], bit, is_last)
    return (known, rest, under_way)


def settled_pairs(table, bit, is_last):
    """REST and OPEN behind a bit of pairs."""
    zero, one, stop = table[2:5]
    rest = one if bit == 1 else zero
    if is_last:
        return (*rest, stop), ""
    return rest, ""


def settled_halves(unit, under_way, bit, is_last):
    """REST and OPEN behind a bit of halves."""
    if first_half(bit) == under_way:
        rest = (2 * unit,)
        last_half = other_half(under_way)
    else:
        rest = (unit, unit)
        last_half = under_way
    # Nothing comes that could end a pulse at the end, so it has to be read here.
    if is_last and last_half == "pulse":
        return (*rest, unit), "gap"
    return rest, last_half


def step_from(bit, place):
    """The step that reads the first duration of a place's rest."""
    known, rest, under_way = place
    return (bit, rest[0], (known, rest[1:], under_way))
