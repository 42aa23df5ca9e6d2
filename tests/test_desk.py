"""A desk and its commands: what each answers, and what can be taken back."""

import unittest
from fractions import Fraction
from random import Random

from beamframes import desk as desk_file
from beamframes.desk import Desk
from beamframes.texts import burst_text, table_text
from tests.told import fraction, ratio, ratios, told_frame, told_limit, told_nearest, told_reads, told_safe, told_words

SMALL = ("pairs", (), (1, 1), (1, 3), 1, 1)
PAIRS = ("pairs", (8, 4), (1, 1), (1, 3), 1, 2)
HALVES = ("halves", 5, 2)
ALIKE = ("halves", 5, 1)
TABLES = (SMALL, PAIRS, HALVES, ALIKE, ("pairs", (2, 2, 3, 3), (7, 5), (5, 7), 3, 2))
ADD_SMALL = "add 1/4 pairs / 1 1 / 1 3 / 1 / 1"
ADD_HALVES = "add 1/5 halves 5 2"
SMALL_LISTED = "1/4 pairs / 1 1 / 1 3 / 1 / 1"
HALVES_LISTED = "1/5 halves 5 2"


def desk_of(*commands):
    """A desk behind commands that are all done."""
    desk = Desk()
    for command in commands:
        if desk.execute(command).startswith(("bad", "no t", "too", "nothing to")):
            raise AssertionError(command)
    return desk


def looks_of(desk):
    """All that a desk tells of its tables and readings."""
    return [desk.execute(command) for command in ("list", "heard")]


class ToldDesk:
    """What a desk should answer, with all its states kept."""

    def __init__(self):
        self.states = [((), ())]

    def execute(self, command):
        name, _, told = command.partition(" ")
        return getattr(self, name)(told)

    def add(self, told):
        pairs, heard = self.states[-1]
        tolerance, _, text = told.partition(" ")
        if len(pairs) == 4:
            return "too many"
        table = [table for table in TABLES if table_text(table) == text][0]
        self.states.append(((*pairs, (table, ratio(Fraction(tolerance)))), heard))
        return "done"

    def drop(self, told):
        pairs, heard = self.states[-1]
        at = int(told)
        if at >= len(pairs):
            return "no table"
        self.states.append((pairs[:at] + pairs[at + 1:], heard))
        return "done"

    def hear(self, told):
        pairs, heard = self.states[-1]
        if not pairs:
            return "no table"
        found = told_reads(pairs, ratios(*[Fraction(word) for word in told.split()]))
        answer = "nothing" if found is None else f"{found[0]} {''.join(map(str, found[1]))}"
        self.states.append((pairs, (*heard, answer)))
        return answer

    def undo(self, told):
        if not 0 < int(told) < len(self.states):
            return "nothing to undo"
        del self.states[-int(told):]
        return "done"

    def list(self, told):
        return "; ".join(f"{own} {table_text(table)}" for table, own in self.states[-1][0]) or "none"

    def heard(self, told):
        return "; ".join(self.states[-1][1]) or "none"

    def send(self, told):
        at, bits = told.split()
        pairs = self.states[-1][0]
        if int(at) >= len(pairs):
            return "no table"
        word = tuple(map(int, bits))
        table = pairs[int(at)][0]
        return " ".join(map(str, told_frame(table, word))) if word in told_words(table) else "bad word"

    def nearest(self, told):
        at, _, text = told.partition(" ")
        pairs = self.states[-1][0]
        if int(at) >= len(pairs):
            return "no table"
        found = told_nearest(pairs[int(at)][0], ratios(*[Fraction(word) for word in text.split()]))
        return "nothing" if found is None else f"{found[0]} {''.join(map(str, found[1]))}"

    def limit(self, told):
        pairs = self.states[-1][0]
        return str(told_limit(pairs)) if pairs else "no table"

    def margin(self, told):
        pairs = self.states[-1][0]
        if not pairs:
            return "no table"
        least, limit = min(fraction(own) for _, own in pairs), told_limit(pairs)
        return f"to {least}" if least < limit else f"below {limit}"

    def safe(self, told):
        pairs = self.states[-1][0]
        if not pairs:
            return "no table"
        return "yes" if told_safe(pairs, ratio(Fraction(told))) else "no"


class DeskTest(unittest.TestCase):
    def answers(self, desk, *pairs):
        for command, told in pairs:
            answer = desk.execute(command)
            self.assertEqual(answer, told, command)
            self.assertIs(type(answer), str)

    def test_a_new_desk(self):
        self.answers(Desk(), ("list", "none"), ("heard", "none"), ("undo 1", "nothing to undo"), ("limit", "no table"))

    def test_command_by_name_and_desks_of_their_own(self):
        one, other = Desk(), Desk()
        self.assertEqual(one.execute(command=ADD_SMALL), "done")
        self.assertEqual([one.execute("list"), other.execute("list")], [SMALL_LISTED, "none"])

    def test_add_and_list(self):
        self.answers(
            Desk(), (ADD_SMALL, "done"), ("list", SMALL_LISTED), (ADD_HALVES, "done"),
            ("list", f"{SMALL_LISTED}; {HALVES_LISTED}"), ("add 0 pairs 8 4 / 1 1 / 1 3 / 1 / 2", "done"),
            ("add 98/100 halves 99999 8", "done"),
            ("list", f"{SMALL_LISTED}; {HALVES_LISTED}; 0 pairs 8 4 / 1 1 / 1 3 / 1 / 2; 49/50 halves 99999 8"),
        )

    def test_each_text_of_a_table(self):
        for table in TABLES:
            self.answers(
                Desk(), (f"add 2/6 {table_text(table)}", "done"), ("list", f"1/3 {table_text(table)}"),
                *[("send 0 " + "".join(map(str, word)), " ".join(map(str, told_frame(table, word))))
                  for word in told_words(table)],
            )

    def test_drop(self):
        desk = desk_of(ADD_SMALL, ADD_HALVES, "add 0 halves 7 1")
        self.answers(
            desk, ("drop 1", "done"), ("list", f"{SMALL_LISTED}; 0 halves 7 1"), ("drop 2", "no table"),
            ("drop 0", "done"), ("list", "0 halves 7 1"), ("send 0 1", "7 7 7"), ("drop 0", "done"), ("list", "none"),
            ("drop 0", "no table"), (ADD_SMALL, "done"), ("list", SMALL_LISTED),
        )

    def test_hear_and_heard(self):
        self.answers(
            desk_of(ADD_SMALL, ADD_HALVES), ("hear 1 5/4 1", "0 0"), ("heard", "0 0"), ("hear 1 2 1", "nothing"),
            ("heard", "0 0; nothing"), ("hear 5 10 5 5 5", "1 00"), ("hear 5 5 5 10 5", "1 10"), ("hear 1", "nothing"),
            ("hear 2/2 6/2 3/3", "0 1"), ("heard", "0 0; nothing; 1 00; 1 10; nothing; 0 1"),
        )

    def test_what_was_read_stays_behind_add_and_drop(self):
        self.answers(
            desk_of(ADD_SMALL, ADD_HALVES), ("hear 5 10 10", "1 01"), ("drop 0", "done"), ("heard", "1 01"),
            ("hear 5 10 10", "0 01"), ("drop 0", "done"), ("heard", "1 01; 0 01"), ("hear 5 10 10", "no table"),
            ("add 0 halves 5 2", "done"), ("heard", "1 01; 0 01"), ("undo 2", "done"), ("heard", "1 01; 0 01"),
            ("undo 1", "done"), ("heard", "1 01"), ("list", HALVES_LISTED),
        )

    def test_undo_of_add_drop_and_hear(self):
        desk = desk_of(ADD_SMALL, "hear 1 1 1", ADD_HALVES, "drop 0", "hear 5 10 10")
        self.answers(
            desk, ("list", HALVES_LISTED), ("heard", "0 0; 0 01"),
            ("undo 1", "done"), ("heard", "0 0"), ("list", HALVES_LISTED),
            ("undo 1", "done"), ("list", f"{SMALL_LISTED}; {HALVES_LISTED}"), ("heard", "0 0"),
            ("undo 1", "done"), ("list", SMALL_LISTED), ("heard", "0 0"),
            ("undo 1", "done"), ("list", SMALL_LISTED), ("heard", "none"),
            ("undo 1", "done"), ("list", "none"), ("undo 1", "nothing to undo"),
        )

    def test_undo_of_several_changes_at_once(self):
        commands = (ADD_SMALL, "hear 1 1 1", ADD_HALVES, "drop 0", "hear 5 10 10", "hear 1 1 1", "drop 0")
        for done in range(len(commands) + 1):
            for count in range(12):
                desk = desk_of(*commands[:done])
                if 0 < count <= done:
                    self.answers(desk, (f"undo {count}", "done"))
                    self.assertEqual(looks_of(desk), looks_of(desk_of(*commands[:done - count])))
                else:
                    self.answers(desk, (f"undo {count}", "nothing to undo"))
                    self.assertEqual(looks_of(desk), looks_of(desk_of(*commands[:done])))

    def test_undo_is_no_change_and_questions_are_none(self):
        desk = desk_of(ADD_SMALL, ADD_HALVES)
        self.answers(
            desk, ("undo 1", "done"), ("list", SMALL_LISTED), ("heard", "none"), ("send 0 1", "1 3 1"),
            ("nearest 0 1 2 1", "1/3 1"), ("limit", "7/12"), ("margin", "to 1/4"), ("safe 1/4", "yes"),
            ("undo 2", "nothing to undo"), ("undo 1", "done"), ("undo 1", "nothing to undo"),
        )

    def test_send_and_nearest(self):
        desk = desk_of(ADD_SMALL, ADD_HALVES, "add 0 pairs 8 4 / 1 1 / 1 3 / 1 / 8")
        self.answers(
            desk, ("send 0 0", "1 1 1"), ("send 0 1", "1 3 1"), ("send 1 10", "5 5 5 10 5"),
            ("send 2 01000000", "8 4 1 1 1 3 " + "1 1 " * 6 + "1"),
            ("nearest 0 1 2 1", "1/3 1"), ("nearest 0 1 1 1", "0 0"), ("nearest 1 5 5 5", "1/2 01"),
            ("nearest 1 50 5 5", "9 01"), ("nearest 0 1 1 1 1 1", "nothing"), ("nearest 2 1", "nothing"),
            ("nearest 0 1 3/2 1", "1/2 0"),
        )

    def test_limit_margin_and_safe(self):
        self.answers(
            desk_of(ADD_SMALL), ("limit", "7/12"), ("margin", "to 1/4"), ("safe 0", "yes"), ("safe 1/4", "yes"),
            ("safe 2/8", "yes"), ("safe 2501/10000", "no"), ("safe 1", "no"), ("safe 7", "no"), ("safe 1/3", "no"),
        )
        self.answers(
            desk_of("add 9/10 pairs / 1 1 / 1 3 / 1 / 1"), ("limit", "11/30"), ("margin", "below 11/30"),
            ("safe 11/30", "no"), ("safe 10/30", "yes"),
        )
        self.answers(
            desk_of(ADD_SMALL, ADD_SMALL), ("limit", "0"), ("margin", "below 0"), ("safe 0", "no"), ("safe 1", "no"),
        )

    def test_limit_never(self):
        # No right receiver is without a limit, so the desk's limit is replaced.
        desk, kept = desk_of(ADD_SMALL), desk_file.limit_of
        desk_file.limit_of = lambda receiver: None
        try:
            self.answers(desk, ("limit", "never"))
        finally:
            desk_file.limit_of = kept

    def test_against_another_desk(self):
        random = Random(41)
        for _ in range(25):
            desk, told = Desk(), ToldDesk()
            for _ in range(60):
                command = some_command(random)
                with self.subTest(command=command):
                    self.assertEqual(desk.execute(command), told.execute(command))

    def test_many_readings(self):
        desk = desk_of(ADD_SMALL)
        for _ in range(2000):
            self.assertEqual(desk.execute("hear 1 3 1"), "0 1")
        self.answers(desk, ("heard", "; ".join(["0 1"] * 2000)), ("undo 2002", "nothing to undo"), ("undo 2001", "done"))
        self.assertEqual(looks_of(desk), ["none", "none"])

    def test_names_stand_in_their_file(self):
        self.assertEqual(Desk.__module__, "beamframes.desk")
        self.assertIn("execute", vars(Desk))


def some_command(random):
    """A right command, which may be refused all the same where tables or changes are missing."""
    name = random.choice(("add", "drop", "hear", "hear", "hear", "undo", "list", "heard", "send", "nearest", "asked"))
    table = random.choice(TABLES)
    frame = told_frame(table, random.choice(told_words(table)))
    burst = burst_text(ratios(*[Fraction(duration * random.randint(3, 6), 4) for duration in frame]))
    at = random.choice((0, 0, 1, 2, 3))
    if name == "add":
        return f"add {random.choice(('0', '1/4', '2/7', '9/10'))} {table_text(table)}"
    if name in ("drop", "undo"):
        return f"{name} {at}"
    if name == "hear":
        return f"hear {burst}"
    if name == "send":
        return f"send {at} {''.join(random.choice('01') for _ in range(random.choice((1, 2, 2, 3))))}"
    if name == "nearest":
        return f"nearest {at} {burst}"
    if name == "asked":
        return random.choice(("limit", "margin", "safe 0", "safe 1/4", "safe 1/20"))
    return name


if __name__ == "__main__":
    unittest.main()
