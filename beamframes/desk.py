"""A desk: tables are put together, tried and asked about by commands."""

from beamframes.bursts import nearest
from beamframes.ears import Course
from beamframes.errors import BadBurst, BadRatio, BadTable, BadText, BadWord, FrameError, NothingToUndo
from beamframes.frames import frame_of
from beamframes.limits import is_safe, limit_of, margin_of
from beamframes.ratios import Ratio, is_below_one
from beamframes.receivers import MOST_PAIRS
from beamframes.texts import read_burst, read_table, table_text
from beamframes.whole import is_numeral

MOST_DIGITS = 4


class Refused(FrameError):
    """A command is not right, or cannot be done; the answer tells why."""

    def __init__(self, answer):
        super().__init__("the command is not right, or cannot be done")
        self.answer = answer


def add_table(course, ratio_text, text):
    """Puts a table with a tolerance behind the others."""
    tolerance = ratio_with(ratio_text)
    if not is_below_one(tolerance):
        raise Refused("bad ratio")
    table = table_with(text)
    if len(course.held) == MOST_PAIRS:
        raise Refused("too many")
    course.exchange((*course.held, (table, tolerance)))
    return "done"


def drop_table(course, index):
    """Takes the table with an index away."""
    table_at(course, index)
    course.exchange(tuple([pair for at, pair in enumerate(course.held) if at != index]))
    return "done"


def hear_burst(course, text):
    """Reads a burst."""
    need_some_table(course)
    return reading_text(course.hear(burst_with(text)))


def undo_changes(course, count):
    """Takes the last changes back."""
    try:
        course.take_back(count)
    except NothingToUndo:
        raise Refused("nothing to undo") from None
    return "done"


def tell_tables(course):
    """The texts of all pairs."""
    return listed([f"{tolerance} {table_text(table)}" for table, tolerance in course.held])


def tell_heard(course):
    """The answers to all bursts that were read."""
    return listed([reading_text(reading) for reading in course.readings])


def send_word(course, index, bits):
    """The durations of the frame of a word."""
    table = table_at(course, index)
    # What is neither 0 nor 1 becomes -1, which is no bit either.
    word = tuple(["01".find(bit) for bit in bits])
    try:
        frame = frame_of(table, word)
    except BadWord:
        raise Refused("bad word") from None
    return " ".join([str(duration) for duration in frame])


def tell_nearest(course, index, text):
    """The least tolerance within which a burst is of a frame of a table, and the word of this frame."""
    table = table_at(course, index)
    found = nearest(table, burst_with(text))
    if found is None:
        return "nothing"
    return f"{found[0]} {bits_text(found[1])}"


def tell_limit(course):
    """The limit of the receiver."""
    need_some_table(course)
    limit = limit_of(course.held)
    return "never" if limit is None else str(limit)


def tell_margin(course):
    """How far the receiver is safe."""
    need_some_table(course)
    word, tolerance = margin_of(course.held)
    return f"{word} {tolerance}"


def tell_safe(course, ratio_text):
    """Whether the receiver is safe at a tolerance."""
    need_some_table(course)
    return "yes" if is_safe(course.held, ratio_with(ratio_text)) else "no"


FORMS = {
    "add": ("word", "text"),
    "drop": ("number",),
    "hear": ("text",),
    "undo": ("number",),
    "list": (),
    "heard": (),
    "send": ("number", "word"),
    "nearest": ("number", "text"),
    "limit": (),
    "margin": (),
    "safe": ("word",),
}
ACTIONS = {
    "add": add_table,
    "drop": drop_table,
    "hear": hear_burst,
    "undo": undo_changes,
    "list": tell_tables,
    "heard": tell_heard,
    "send": send_word,
    "nearest": tell_nearest,
    "limit": tell_limit,
    "margin": tell_margin,
    "safe": tell_safe,
}


class Desk:
    """A desk without tables, to begin with."""

    def __init__(self):
        self._course = Course(())

    def execute(self, command):
        """The answer to a command."""
        try:
            name, given = parts_of(command)
            action = ACTIONS[name]
            return action(self._course, *given)
        except Refused as refused:
            return refused.answer


def parts_of(command):
    """The name of a command and the list of what is told behind it; "bad command" of what is no right one."""
    if not isinstance(command, str):
        raise Refused("bad command")
    name, *words = command.split(" ")
    if name not in FORMS or "" in words:
        raise Refused("bad command")
    form = FORMS[name]
    parts = parts_by(form, words)
    if len(parts) != len(form):
        raise Refused("bad command")
    return name, [given_by(kind, part) for kind, part in zip(form, parts)]


def parts_by(form, words):
    """Words, of which those of a text at the end are put together."""
    ahead = len(form) - 1
    if form[ahead:] == ("text",) and len(words) > ahead:
        return words[:ahead] + [" ".join(words[ahead:])]
    return words


def given_by(kind, part):
    """What a part of a command gives: a number, or itself; "bad command" of what is no number."""
    if kind != "number":
        return part
    if not is_numeral(part, MOST_DIGITS):
        raise Refused("bad command")
    return int(part)


def need_some_table(course):
    """Nothing; "no table" if there is none."""
    if course.held == ():
        raise Refused("no table")


def table_at(course, index):
    """The table with an index; "no table" if there is none."""
    if index >= len(course.held):
        raise Refused("no table")
    return course.held[index][0]


def ratio_with(text):
    """The ratio with a text; "bad ratio" if it is none."""
    try:
        return Ratio.read(text)
    except BadRatio:
        raise Refused("bad ratio") from None


def table_with(text):
    """The table with a text; "bad table" if there is none."""
    try:
        return read_table(text)
    except (BadText, BadTable):
        raise Refused("bad table") from None


def burst_with(text):
    """The burst with a text; "bad burst" if there is none."""
    try:
        return read_burst(text)
    except (BadText, BadBurst):
        raise Refused("bad burst") from None


def reading_text(reading):
    """The answer to a burst that was read so."""
    if reading is None:
        return "nothing"
    index, word = reading
    return f"{index} {bits_text(word)}"


def bits_text(word):
    """The bits of a word without spaces."""
    return "".join([str(bit) for bit in word])


def listed(texts):
    """Texts with "; " between, or "none" without any."""
    return "; ".join(texts) if texts else "none"
