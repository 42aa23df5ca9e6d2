"""What the document says, worked out in another way than the package does: by trying all words, with fractions."""

from fractions import Fraction
from itertools import groupby, product

from beamframes.ratios import Ratio


def fraction(ratio):
    return Fraction(ratio.num, ratio.den)


def ratio(number):
    return Ratio(Fraction(number).numerator, Fraction(number).denominator)


def ratios(*numbers):
    return tuple(ratio(number) for number in numbers)


def receiver_of(*pairs):
    """A receiver of pairs of a table and a fraction."""
    return tuple((table, ratio(tolerance)) for table, tolerance in pairs)


def told_words(table):
    return list(product((0, 1), repeat=table[-1]))


def told_runs(word):
    """The letters and sizes of the like halves that come one behind the other."""
    letters = "PG" + "".join(("GP", "PG")[bit] for bit in word)
    return [(letter, len(list(run))) for letter, run in groupby(letters)]


def told_frame(table, word):
    """The frame by the words of the document: one letter for each UNIT, like ones put together."""
    if table[0] == "pairs":
        _, header, zero, one, stop, _ = table
        return header + sum([(zero, one)[bit] for bit in word], ()) + (stop,)
    runs = told_runs(word)
    if runs[-1][0] == "G":
        runs.pop()
    return tuple(size * table[1] for _, size in runs)


def told_place(table, word, count):
    """The place at which as many durations of a word's frame are read as told."""
    for known in range(table[-1] + 1):
        part = word[:known]
        is_last = known == table[-1]
        if table[0] == "pairs":
            durations, under_way = told_frame(table, part), ""
            if not is_last:
                durations = durations[:-1]
        else:
            runs = told_runs(part)
            under_way = {"P": "pulse", "G": "gap"}[runs[-1][0]]
            if is_last and under_way == "pulse":
                under_way = "gap"
            else:
                runs.pop()
            durations = tuple(size * table[1] for _, size in runs)
        if count <= len(durations):
            return (known, durations[count:], under_way)
    raise AssertionError("the frame is not that long")


def told_off(burst, frame):
    """The least tolerance within which a burst is of a frame, or None if it has another number of items."""
    if len(burst) != len(frame):
        return None
    return max(abs(fraction(item) - duration) / duration for item, duration in zip(burst, frame))


def told_within(burst, frame, tolerance):
    off = told_off(burst, frame)
    return off is not None and off <= fraction(tolerance)


def told_nearest(table, burst):
    found = [(told_off(burst, told_frame(table, word)), word) for word in told_words(table)]
    found = [(off, word) for off, word in found if off is not None]
    return min(found) if found else None


def told_reads(receiver, burst):
    for index, (table, tolerance) in enumerate(receiver):
        for word in told_words(table):
            if told_within(burst, told_frame(table, word), tolerance):
                return (index, word)
    return None


def told_need(one, other, tolerance):
    kept = fraction(tolerance)
    return max(0, Fraction(other) * (1 - kept) / one - 1, 1 - Fraction(other) * (1 + kept) / one)


def told_sendings(receiver):
    return [(index, word) for index, (table, _) in enumerate(receiver) for word in told_words(table)]


def told_frame_of(receiver, sending):
    return told_frame(receiver[sending[0]][0], sending[1])


def told_needs(receiver):
    """The least tolerance at which each sending can be taken for each lesser one, where there is one."""
    needs = {}
    for first in told_sendings(receiver):
        for second in told_sendings(receiver):
            frame, other = told_frame_of(receiver, first), told_frame_of(receiver, second)
            if second < first and len(frame) == len(other):
                tolerance = receiver[second[0]][1]
                needs[first, second] = max(told_need(d, e, tolerance) for d, e in zip(frame, other))
    return needs


def told_limit(receiver):
    return min(told_needs(receiver).values(), default=None)


def told_safe(receiver, tolerance):
    """Fact 5, with the limit from all pairs of words."""
    asked, limit = fraction(tolerance), told_limit(receiver)
    return all(asked <= fraction(own) for _, own in receiver) and (limit is None or asked < limit)


def told_starts(receiver):
    begins = [(0, table[1], "") if table[0] == "pairs" else (0, (table[1],), "gap") for table, _ in receiver]
    found = [(i, j, True, begins[i], begins[j]) for i in range(len(receiver)) for j in range(i)]
    found += [(i, i, False, begins[i], begins[i]) for i in range(len(receiver))]
    return sorted(found)


def told_stands(receiver, tolerance=None):
    """All stands that start stands lead to at a tolerance, or at some: each is passed by some two words."""
    found = set()
    for first in told_sendings(receiver):
        for second in told_sendings(receiver):
            if second <= first:
                found.update(stands_passed(receiver, first, second, tolerance))
    return found


def stands_passed(receiver, first, second, tolerance):
    (index, word), (lower, lesser) = first, second
    table, (other_table, own) = receiver[index][0], receiver[lower]
    frame, other = told_frame(table, word), told_frame(other_table, lesser)
    for count in range(min(len(frame), len(other)) + 1):
        if count and tolerance is not None:
            if told_need(frame[count - 1], other[count - 1], own) > fraction(tolerance):
                return
        one, two = told_place(table, word, count), told_place(other_table, lesser, count)
        yield (index, lower, lower < index or word[:one[0]] != lesser[:two[0]], one, two)


def is_told_final(receiver, stand):
    index, lower, is_less, one, two = stand
    return is_less and one[:2] == (receiver[index][0][-1], ()) and two[:2] == (receiver[lower][0][-1], ())


def told_led(receiver, stands, tolerance):
    """A dict of each stand with the set of those to which it leads at a tolerance."""
    led = {stand: set() for stand in stands}
    for first in told_sendings(receiver):
        for second in told_sendings(receiver):
            if second <= first:
                for before, after, need in moves_passed(receiver, first, second):
                    if need <= fraction(tolerance) and before in led:
                        led[before].add(after)
    return led


def moves_passed(receiver, first, second):
    passed = list(stands_passed(receiver, first, second, None))
    frame, other = told_frame_of(receiver, first), told_frame_of(receiver, second)
    own = receiver[second[0]][1]
    for at, (before, after) in enumerate(zip(passed, passed[1:])):
        yield before, after, told_need(frame[at], other[at], own)
