"""Limits: up to which tolerance all that is sent is read as it was sent."""

from beamframes.confusing import Ways, start_stands
from beamframes.ratios import Ratio, need_ratio
from beamframes.receivers import need_receiver


def limit_of(receiver):
    """The least tolerance at which some sending can be taken for another one, or None."""
    need_receiver(receiver)
    return least_to_final(Ways(receiver), start_stands(receiver))


def is_safe(receiver, tolerance):
    """Whether each burst within a tolerance of the frame of a sending is read as this sending."""
    need_receiver(receiver)
    need_ratio(tolerance)
    if tolerance > least_tolerance(receiver):
        return False
    limit = limit_of(receiver)
    return limit is None or tolerance < limit


def margin_of(receiver):
    """How far a receiver is safe: ("to", tolerance), or ("below", limit)."""
    limit = limit_of(receiver)
    least = least_tolerance(receiver)
    if limit is None or least < limit:
        return ("to", least)
    return ("below", limit)


def least_tolerance(receiver):
    """The least tolerance of a receiver."""
    least = receiver[0][1]
    for _, tolerance in receiver:
        if tolerance < least:
            least = tolerance
    return least


def least_to_final(ways, stands):
    """The least of the greatest needs on the ways from some stands to final ones, or None if there is no way."""
    least = None
    reached = {stand: Ratio(0) for stand in stands}
    # Each move reads one duration of both frames, so after as many moves as these have no stand is left.
    while reached:
        for stand in list(reached):
            if ways.is_final(stand) and (least is None or reached[stand] < least):
                least = reached[stand]
        reached = one_move_on(ways, reached)
    return least


def one_move_on(ways, reached):
    """The stands one move behind some, each with the least of the greatest needs on the ways there."""
    further = {}
    for stand in list(reached):
        for need, led, _ in ways.moves_from(stand):
            greatest = need if need > reached[stand] else reached[stand]
            if led not in further or greatest < further[led]:
                further[led] = greatest
    return further
