"""What the document says of presses, worked out in another way than the package does: by looking at whole rows."""

from itertools import product


def told_moments(buttons):
    presses = [("press", button, is_heard) for button in range(buttons) for is_heard in (False, True)]
    return sorted(presses + [("hold", False), ("hold", True), ("rest",)])


def told_frames(row):
    """All frames that are sent: (moment, number of the press, button, is it the first of the press, is it heard)."""
    frames, press, button = [], -1, None
    for at, moment in enumerate(row):
        if moment[0] == "press":
            press, button = press + 1, moment[1]
        if moment[0] != "rest":
            frames.append((at, press, button, moment[0] == "press", moment[-1]))
    return frames


def told_heard(row):
    return [frame for frame in told_frames(row) if frame[4]]


def told_counted(style, row):
    """The pairs (moment, button) by the words of the document, each frame that is heard beside the one before it."""
    heard, pairs = told_heard(row), []
    for number, (at, press, button, is_first, _) in enumerate(heard):
        before = heard[number - 1] if number else None
        if style[0] == "same":
            is_held = before is not None and before[2] == button and at - before[0] <= style[1]
        elif style[0] == "short":
            is_held = not is_first
        else:
            is_held = before is not None and before[2] == button and before[1] % 2 == press % 2
        if not is_held:
            pairs.append((at, button))
    return tuple(pairs)


def told_due(row):
    """The moments at which the first frame that is heard of a press is heard."""
    found = {}
    for at, press, _, _, _ in told_heard(row):
        found.setdefault(press, at)
    return sorted(found.values())


def told_first_wrong(style, row):
    counted = {at for at, _ in told_counted(style, row)}
    wrong = sorted(counted ^ set(told_due(row)))
    return wrong[0] if wrong else None


def is_told_row(row):
    """Whether "hold" comes directly behind "press" and "hold" only."""
    return all(
        moment[0] != "hold" or (at > 0 and row[at - 1][0] in ("press", "hold")) for at, moment in enumerate(row)
    )


def is_within_bounds(row, lost, rests):
    """Whether a row keeps to what may be lost, and to how many rests come between presses."""
    run = 0
    for frame in told_frames(row):
        run = 0 if frame[4] else run + 1
        if run > lost:
            return False
    last = None
    for at, moment in enumerate(row):
        if moment[0] == "press" and last is not None and at - last - 1 < rests:
            return False
        if moment[0] != "rest":
            last = at
    return True


def told_rows(buttons, lost, rests, most):
    """All rows within bounds, up to a length: those of one length in their order, shorter ones ahead."""
    rows = [()]
    for _ in range(most):
        rows = [(*row, moment) for row, moment in product(rows, told_moments(buttons))]
        rows = [row for row in rows if is_told_row(row) and is_within_bounds(row, lost, rests)]
        yield from rows


def told_wrong_row(style, buttons, lost, rests, most):
    """The first row up to a length that is not counted rightly, or None."""
    for row in told_rows(buttons, lost, rests, most):
        if told_first_wrong(style, row) is not None:
            return row
    return None
