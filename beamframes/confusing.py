"""Which sendings can be taken for others: the stands of a receiver, and papers that show what is so."""

from beamframes.bursts import fits, is_burst, off_by
from beamframes.errors import BadNumber, BadPaper, BadRatio
from beamframes.frames import begin_of, steps_of
from beamframes.ratios import Ratio, is_below_one, need_ratio
from beamframes.receivers import frame_of_sending, is_sending, need_receiver
from beamframes.tables import begins_with, is_duration
from beamframes.whole import is_whole


class Ways:
    """What leads to what for one receiver: what many stands share is worked out once."""

    def __init__(self, receiver):
        self._steps = [steps_by_place(table) for table, _ in receiver]
        self._tolerances = [tolerance for _, tolerance in receiver]
        self._needs = {}

    def need(self, lower, one, other):
        """The need of two durations for the tolerance at an index of the receiver."""
        asked = (lower, one, other)
        if asked not in self._needs:
            self._needs[asked] = need_between(one, other, self._tolerances[lower])
        return self._needs[asked]

    def moves_from(self, stand):
        """The list of what a stand leads to at any tolerance: triples (need, stand, the two steps)."""
        index, lower, is_less, one, two = stand
        moves = []
        for step in self._steps[index][one]:
            for other in self._steps[lower][two]:
                # Without LESS both places are equal, so there are two bits to compare, or none.
                if is_less or other[0] == step[0] or other[0] < step[0]:
                    led = (index, lower, is_less or other[0] != step[0], step[2], other[2])
                    moves.append((self.need(lower, step[1], other[1]), led, (step, other)))
        return moves

    def is_final(self, stand):
        """Whether a stand is final."""
        index, lower, is_less, one, two = stand
        # Only from an end there is no step.
        return is_less and self._steps[index][one] == [] and self._steps[lower][two] == []


def need_of(one, other, tolerance):
    """The need of two durations for a tolerance less than 1."""
    for number in (one, other):
        if not is_duration(number):
            raise BadNumber(number)
    if not is_below_one(tolerance):
        raise BadRatio(tolerance)
    return need_between(one, other, tolerance)


def start_stands(receiver):
    """The ascending list of the start stands of a receiver."""
    need_receiver(receiver)
    begins = [begin_of(table) for table, _ in receiver]
    stands = []
    for index, begin in enumerate(begins):
        for lower in range(index + 1):
            stands.append((index, lower, lower < index, begin, begins[lower]))
    return stands


def taken(receiver, tolerance):
    """A paper that shows that no sending can be taken for another one at a tolerance, or which one can."""
    need_receiver(receiver)
    need_ratio(tolerance)
    ways = Ways(receiver)
    came_by = stands_led_to(ways, start_stands(receiver), tolerance)
    for stand in list(came_by):
        if ways.is_final(stand):
            return paper_of_way(receiver, stand, way_to(came_by, stand))
    return ("safe", tuple(list(came_by)))


def check_taken(receiver, tolerance, paper):
    """The form of a paper that holds, "safe" or "taken"; BadPaper with the first part that does not hold."""
    need_receiver(receiver)
    need_ratio(tolerance)
    if begins_with(paper, "safe", 2):
        wrong = wrong_part_of_safe(receiver, tolerance, paper[1])
    elif begins_with(paper, "taken", 4):
        wrong = wrong_part_of_taken(receiver, tolerance, paper)
    else:
        wrong = "form"
    if wrong is not None:
        raise BadPaper(wrong)
    return paper[0]


def need_between(one, other, tolerance):
    """The need of two durations, which for tables of halves may be twice as long as durations of tables."""
    # The greatest of the three numbers is how far the first duration is off what the other one allows.
    return off_by(nearest_allowed(one, other, tolerance), one)


def nearest_allowed(one, other, tolerance):
    """The number nearest to one duration of those within a tolerance of the other one."""
    low = Ratio(other * (tolerance.den - tolerance.num), tolerance.den)
    high = Ratio(other * (tolerance.den + tolerance.num), tolerance.den)
    number = Ratio(one)
    if number < low:
        return low
    if number > high:
        return high
    return number


def steps_by_place(table):
    """A dict of all places of a table, each with the list of the steps from it."""
    steps = {}
    waiting = [begin_of(table)]
    while waiting:
        place = waiting.pop()
        if place not in steps:
            steps[place] = steps_of(table, place)
            waiting.extend([step[2] for step in steps[place]])
    return steps


def stands_led_to(ways, starts, tolerance):
    """A dict of the stands that some lead to at a tolerance, or at some tolerance if it is None.

    Each has as its value from where it was first reached, a pair (stand, the two steps), or None if it is one of these.
    """
    came_by = {}
    waiting = [(start, None) for start in starts]
    while waiting:
        stand, origin = waiting.pop()
        if stand not in came_by:
            came_by[stand] = origin
            for need, led, steps in ways.moves_from(stand):
                if tolerance is None or need <= tolerance:
                    waiting.append((led, (stand, steps)))
    return came_by


def way_to(came_by, stand):
    """The list of the pairs of steps on the way by which a stand was first reached."""
    way = []
    origin = came_by[stand]
    while origin is not None:
        way.append(origin[1])
        origin = came_by[origin[0]]
    return way[::-1]


def paper_of_way(receiver, final, way):
    """The paper that shows the way to a final stand."""
    index, lower = final[:2]
    first = (index, word_along([steps[0] for steps in way]))
    second = (lower, word_along([steps[1] for steps in way]))
    tolerance = receiver[lower][1]
    burst = tuple([nearest_allowed(one[1], two[1], tolerance) for one, two in way])
    return ("taken", first, second, burst)


def word_along(steps):
    """The bits that are settled by steps."""
    return tuple([step[0] for step in steps if step[0] is not None])


def wrong_part_of_safe(receiver, tolerance, stands):
    """The part of a paper of the form "safe" that does not hold, or None."""
    if not isinstance(stands, tuple):
        return "stands"
    ways = Ways(receiver)
    starts = start_stands(receiver)
    listed = as_listed(ways, starts, stands)
    if listed is None or not all([start in listed for start in starts]):
        return "stands"
    for stand in stands:
        for need, led, _ in ways.moves_from(stand):
            if need <= tolerance and led not in listed:
                return "stands"
    return None


def as_listed(ways, starts, stands):
    """A dict of the members of a tuple, or None unless they are stands, none of them final or there twice."""
    known = stands_led_to(ways, starts, None)
    listed = {}
    for stand in stands:
        if not has_form_of_stand(stand) or stand not in known or stand in listed or ways.is_final(stand):
            return None
        listed[stand] = True
    return listed


def has_form_of_stand(thing):
    """Whether a thing is built as stands are, with integers, bools and strings at their places."""
    # For Python True is equal to 1, and a thing with a list in it cannot be looked up in a dict.
    if not isinstance(thing, tuple) or len(thing) != 5:
        return False
    if not (is_whole(thing[0]) and is_whole(thing[1]) and isinstance(thing[2], bool)):
        return False
    return has_form_of_place(thing[3]) and has_form_of_place(thing[4])


def has_form_of_place(thing):
    """Whether a thing is built as places are."""
    if not isinstance(thing, tuple) or len(thing) != 3:
        return False
    known, rest, under_way = thing
    if not (is_whole(known) and isinstance(rest, tuple) and isinstance(under_way, str)):
        return False
    return all([is_whole(duration) for duration in rest])


def wrong_part_of_taken(receiver, tolerance, paper):
    """The first part of a paper of the form "taken" that does not hold, or None."""
    first, second, burst = paper[1:]
    if not is_sending(receiver, first):
        return "first"
    if not is_sending(receiver, second) or not second < first:
        return "second"
    if not is_burst(burst) or not fits(burst, frame_of_sending(receiver, first), tolerance):
        return "burst"
    if not fits(burst, frame_of_sending(receiver, second), receiver[second[0]][1]):
        return "burst"
    return None
