"""Presses of buttons: how many are counted, where the count is wrong, and whether it can be."""

from beamframes.errors import BadNumber, BadRow, BadStyle
from beamframes.tables import begins_with
from beamframes.whole import is_whole_from

MOST_BUTTONS = 4
MOST_KEEP = 9
MOST_LOST = 5
MOST_RESTS = 6
# No button, the mark ahead of the first press's, and no frame that was heard last: see one_moment_on.
NOTHING_SENT = (None, 1, None)


def need_style(thing):
    """The style itself; BadStyle of what is none."""
    if not is_style(thing):
        raise BadStyle(thing)
    return thing


def need_row(buttons, thing):
    """The row itself; BadRow with the first moment that is none, or that cannot come there."""
    need_number(buttons, 1, MOST_BUTTONS)
    if not isinstance(thing, tuple):
        raise BadRow(None)
    is_under_way = False
    for at, moment in enumerate(thing):
        if not is_moment(buttons, moment) or (moment[0] == "hold" and not is_under_way):
            raise BadRow(at)
        is_under_way = moment[0] != "rest"
    return thing


def counted(style, buttons, row):
    """The tuple of the pairs (moment, button) at which a press is counted."""
    need_style(style)
    need_row(buttons, row)
    state = NOTHING_SENT
    pairs = []
    for at, moment in enumerate(row):
        state, is_counted, _ = one_moment_on(style, state, moment)
        if is_counted:
            pairs.append((at, state[0]))
    return tuple(pairs)


def first_wrong(style, buttons, row):
    """The first moment at which the count is not right, or None."""
    need_style(style)
    need_row(buttons, row)
    state = NOTHING_SENT
    for at, moment in enumerate(row):
        state, is_counted, is_due = one_moment_on(style, state, moment)
        if is_counted != is_due:
            return at
    return None


def wrong_row(style, buttons, lost, rests):
    """The first of the shortest rows that are not counted rightly, within bounds of what is lost; or None."""
    need_style(style)
    need_number(buttons, 1, MOST_BUTTONS)
    need_number(lost, 0, MOST_LOST)
    need_number(rests, 0, MOST_RESTS)
    begin = (NOTHING_SENT, (0, rests + 1))
    rows = {begin: ()}
    reached = [begin]
    # Rows of one length come in their order, so the first one that leads to a place is the one to go on from.
    while reached:
        further = []
        for place in reached:
            for moment, led, is_wrong in moves_from(style, place, moments_of(buttons), lost, rests):
                row = rows[place] + (moment,)
                if is_wrong:
                    return row
                if led not in rows:
                    rows[led] = row
                    further.append(led)
        reached = further
    return None


def is_style(thing):
    """Whether a thing is a style."""
    if begins_with(thing, "same", 2):
        return is_whole_from(thing[1], 0, MOST_KEEP)
    return begins_with(thing, "short", 1) or begins_with(thing, "toggle", 1)


def is_moment(buttons, thing):
    """Whether a thing is a moment of a remote with as many buttons."""
    if begins_with(thing, "press", 3):
        return is_whole_from(thing[1], 0, buttons - 1) and isinstance(thing[2], bool)
    if begins_with(thing, "hold", 2):
        return isinstance(thing[1], bool)
    return begins_with(thing, "rest", 1)


def need_number(thing, low, high):
    """Nothing; BadNumber of what is no integer from low to high."""
    if not is_whole_from(thing, low, high):
        raise BadNumber(thing)


def moments_of(buttons):
    """The ascending list of all moments of a remote with as many buttons."""
    presses = [("press", button, is_heard) for button in range(buttons) for is_heard in (False, True)]
    return [("hold", False), ("hold", True), *presses, ("rest",)]


def moves_from(style, place, moments, lost, rests):
    """The list of the moments that may come at a place within the bounds: triples (moment, place, is it wrong).

    A place is a pair of a state and a spell.
    """
    state, spell = place
    moves = []
    for moment in moments:
        spell_on = spell_behind(spell, moment, lost, rests)
        if spell_on is not None:
            state_on, is_counted, is_due = one_moment_on(style, state, moment)
            moves.append((moment, (state_on, spell_on), is_counted != is_due))
    return moves


def one_moment_on(style, state, moment):
    """The state behind a moment, whether a press is counted there, and whether one should be.

    A state is (BUTTON, MARK, LAST): those of the press that came last, and the frame that was heard last, or None. This
    is (BUTTON, MARK, AGE, IS_THIS): AGE is how many moments ago it was as far as that counts, IS_THIS whether it is of
    the press that came last.
    """
    button, mark, last = state
    kind = moment[0]
    last = last_behind(style, last, kind == "press")
    if kind == "press":
        button = moment[1]
        mark = mark_behind(style, mark)
    if kind == "rest" or not moment[-1]:
        return (button, mark, last), False, False
    is_counted = counts(style, kind == "press", button, mark, last)
    is_due = last is None or not last[3]
    return (button, mark, (button, mark, 0, True)), is_counted, is_due


def last_behind(style, last, is_press):
    """The frame that was heard last, one moment later, which is another press or is none."""
    if last is None:
        return None
    button, mark, age, is_this = last
    # Beyond KEEP all ages are alike, and in the other styles they do not count: so there are few states.
    if style[0] == "same" and age <= style[1]:
        age = age + 1
    return (button, mark, age, is_this and not is_press)


def mark_behind(style, mark):
    """The mark of the press behind one with a mark."""
    return 1 - mark if style[0] == "toggle" else mark


def counts(style, is_press, button, mark, last):
    """Whether a frame that is heard counts a press, behind the frame that was heard last."""
    if style[0] == "short":
        return is_press
    if last is None or last[0] != button:
        return True
    if style[0] == "same":
        return last[2] > style[1]
    return last[1] != mark


def spell_behind(spell, moment, lost, rests):
    """How a row goes on within the bounds behind a moment, or None if this moment may not come there.

    A spell is (LOSSES, PAUSE): how many frames at the end were not heard one behind the other, and how many rests are
    behind the last frame; rests + 1 of these stand for more, and for a row without a frame.
    """
    losses, pause = spell
    kind = moment[0]
    if kind == "rest":
        return (losses, pause if pause > rests else pause + 1)
    if (kind == "hold" and pause != 0) or (kind == "press" and pause < rests):
        return None
    if moment[-1]:
        return (0, 0)
    return None if losses == lost else (losses + 1, 0)
