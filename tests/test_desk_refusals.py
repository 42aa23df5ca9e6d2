"""What a desk refuses, with which answer, in which order; and that each refusal changes nothing."""

import unittest

from beamframes.desk import Desk
from beamframes.ratios import Ratio
from tests.test_desk import ADD_HALVES, ADD_SMALL, desk_of, looks_of

# One right command of each name, for a desk with two tables and three changes.
RIGHT = (
    "add 1/4 halves 7 2", "drop 1", "hear 1 3 1", "undo 2", "list", "heard", "send 0 1", "nearest 0 1 3 1", "limit",
    "margin", "safe 1/4",
)
# Commands that end with a text of many words, so that a word more makes another text of it.
OPEN_ENDED = ("add", "hear", "nearest")
NO_STRINGS = (
    None, True, 0, 1.5, b"list", ["list"], ("list",), [], (), {}, {"list": 1}, object(), Ratio(1), list("list"),
)
NO_NUMBERS = (
    "00", "01", "007", "0000", "00001", "10000", "99999", "00000", "-1", "-0", "+1", "1.0", "1/1", "x", "1_0", "0x1",
    "1e1", "one", "1\n", "\n1", "1,", "None", "True",
)
NO_RATIOS = ("x", "01", "1/0", "1/", "/2", "-1", "+1", "0.5", "1/4/4", "1/04", "1" * 41, "1/" + "1" * 41, "1/4\n")
NO_TABLES = (
    "x", "pairs", "halves", "halves 5", "halves 5 2 1", "halves 0 2", "halves 5 0", "halves 5 9", "halves 05 2",
    "Halves 5 2", "halves 100000 2", "halves -5 2", "halves 5 2\n", "pairs / 1 1 / 1 3 / 1", "pairs 1 1 / 1 3 / 1 / 1",
    "pairs / 1 1 / 1 1 / 1 / 1", "pairs 1 / 1 1 / 1 3 / 1 / 1", "pairs / 1 0 / 1 3 / 1 / 1", "1/4 halves 5 2",
    "pairs / 1 1 / 1 3 / 1 / 1 /", "pairs/ 1 1 / 1 3 / 1 / 1", "x" * 4000,
)
NO_BURSTS = (
    "x", "1 1", "0", "1 0 1", "1 x 1", "1 1 1 1", "1 3 1\n", "1\n3\n1", "1 03 1", "1 3 -1", "1/0 1 1", "1.5 1 1",
    " ".join(["1"] * 65), " ".join(["1"] * 64), "1 1 1x", "1" * 41, "1,3,1",
)


def right_desk():
    return desk_of(ADD_SMALL, ADD_HALVES, "hear 1 3 1")


class RefusalsTest(unittest.TestCase):
    def refused(self, desk, command, answer):
        """The desk answers so, and is the same as before, with as many changes."""
        before = looks_of(desk)
        with self.subTest(command=command):
            for _ in range(2):
                found = desk.execute(command)
                self.assertEqual(found, answer)
                self.assertIs(type(found), str)
                self.assertEqual(looks_of(desk), before)

    def all_refused(self, answer, *commands):
        desk = right_desk()
        for command in commands:
            self.refused(desk, command, answer)
        self.assertEqual(desk.execute("undo 4"), "nothing to undo")
        self.assertEqual(desk.execute("undo 3"), "done")
        self.assertEqual(looks_of(desk), ["none", "none"])

    def test_all_right_commands_are_done(self):
        for command in RIGHT:
            answer = right_desk().execute(command)
            self.assertFalse(answer.startswith(("bad", "no table", "too many", "nothing")), (command, answer))

    def test_what_is_no_string(self):
        self.all_refused("bad command", *NO_STRINGS)

    def test_other_words(self):
        self.all_refused(
            "bad command", "", " ", "  ", "\n", "x", "bad", "help", "execute", "0", "1/4", "done", "none", "tables", "twin",
            "exchange 0", "trial", "to 1/4", "addd 1/4 halves 5 2", "ad 1/4 halves 5 2", "lists", "list;", "list; heard",
            "listheard", "add1/4 halves 5 2", "undo1",
        )

    def test_a_word_too_few(self):
        for command in RIGHT:
            words = command.split(" ")
            name = words[0]
            if name in ("add", "nearest"):
                self.all_refused("bad command", " ".join(words[:2]), name)
            else:
                self.all_refused("bad command", *([name] if len(words) > 1 else [""]), " ".join(words[1:]))
        self.all_refused("bad command", "send 0", "send 1", "send", "send 01")

    def test_a_word_too_many(self):
        for command in RIGHT:
            if command.split(" ")[0] not in OPEN_ENDED:
                for word in ("x", "0", "1", command.split(" ")[-1], "list", "/"):
                    self.all_refused("bad command", f"{command} {word}", f"{command} {word} {word}")
        for command in RIGHT:
            self.all_refused("bad command", f"x {command}", f"0 {command}", f"/ {command}")

    def test_spaces_otherwise(self):
        for command in RIGHT:
            self.all_refused("bad command", f" {command}", f"{command} ", f"  {command}", f"{command}  ")
            for at, letter in enumerate(command):
                if letter == " ":
                    self.all_refused("bad command", f"{command[:at]}  {command[at + 1:]}")
                    self.all_refused("bad command", f"{command[:at]}   {command[at + 1:]}")

    def test_line_feeds(self):
        for command in RIGHT:
            name = command.split(" ")[0]
            self.all_refused("bad command", f"\n{command}", command.replace(name, f"{name}\n"))
            if " " in command:
                self.all_refused("bad command", command.replace(" ", "\n"), command.replace(" ", "\n", 1))
            if len(command.split(" ")) < 3 and name not in ("hear", "safe"):
                self.all_refused("bad command", f"{command}\n")

    def test_other_letters(self):
        for command in RIGHT:
            name = command.split(" ")[0]
            for other in (name.upper(), name.capitalize(), name[:-1] + name[-1].upper()):
                self.all_refused("bad command", command.replace(name, other, 1))

    def test_numbers_written_otherwise(self):
        for word in NO_NUMBERS:
            self.all_refused(
                "bad command", f"drop {word}", f"undo {word}", f"send {word} 1", f"send {word} x", f"nearest {word} 1 3 1",
                f"nearest {word} x",
            )

    def test_numbers_of_one_to_four_digits(self):
        for number in (2, 3, 9, 10, 99, 100, 999, 1000, 9999):
            self.all_refused("no table", f"drop {number}", f"send {number} 1", f"nearest {number} 1 3 1")
        for number in (0, 4, 9, 10, 99, 100, 999, 1000, 9999):
            self.all_refused("nothing to undo", f"undo {number}")

    def test_bad_ratio(self):
        for word in NO_RATIOS:
            self.all_refused("bad ratio", f"add {word} halves 5 2", f"safe {word}")
        for word in ("1", "1/1", "4/4", "5/4", "2", "99999", "1" * 40):
            self.all_refused("bad ratio", f"add {word} halves 5 2")
            self.assertEqual(right_desk().execute(f"safe {word}"), "no")

    def test_bad_table(self):
        for text in NO_TABLES:
            self.all_refused("bad table", f"add 1/4 {text}", f"add 0 {text}")

    def test_bad_burst(self):
        for text in NO_BURSTS:
            self.all_refused("bad burst", f"hear {text}", f"nearest 0 {text}", f"nearest 1 {text}")

    def test_bad_word(self):
        for bits in (
            "00", "01", "111", "2", "x", "-1", "a", "0\n", "1/1", "O", "l", "/", "True", "(1,)", "0,", "1" * 4000,
        ):
            self.all_refused("bad word", f"send 0 {bits}")
        for bits in ("0", "1", "000", "02", "20", "0x", "-10", "1\n", "0.", "1" * 9):
            self.all_refused("bad word", f"send 1 {bits}")

    def test_no_table(self):
        commands = (
            "drop 0", "hear 1 3 1", "hear x", "hear 1 1", "send 0 1", "send 0 x", "nearest 0 1 3 1", "nearest 0 x", "limit",
            "margin", "safe 1/4", "safe x", "safe 1/0",
        )
        for desk in (Desk(), desk_of(ADD_SMALL, "hear 1 3 1", "drop 0")):
            for command in commands:
                self.refused(desk, command, "no table")
        self.all_refused(
            "no table", "drop 2", "send 2 1", "send 2 x", "send 9999 2", "nearest 2 1 3 1", "nearest 2 x", "nearest 9 1 1",
        )

    def test_too_many(self):
        desk = desk_of(*[f"add 1/9 halves {unit} 2" for unit in (5, 6, 7, 8)])
        self.refused(desk, "add 1/4 halves 9 2", "too many")
        self.refused(desk, ADD_SMALL, "too many")
        # What is wrong with the ratio comes first, then what is wrong with the table.
        for word in (*NO_RATIOS, "1", "3/2"):
            self.refused(desk, f"add {word} halves 9 2", "bad ratio")
            self.refused(desk, f"add {word} x", "bad ratio")
        for text in NO_TABLES:
            self.refused(desk, f"add 1/4 {text}", "bad table")
        self.assertEqual(desk.execute("undo 5"), "nothing to undo")
        self.assertEqual(desk.execute("drop 3"), "done")
        self.assertEqual(desk.execute(ADD_SMALL), "done")
        self.refused(desk, ADD_SMALL, "too many")

    def test_bad_ratio_comes_ahead_of_bad_table(self):
        for word in (*NO_RATIOS, "1", "3/2"):
            for text in NO_TABLES[:4]:
                self.all_refused("bad ratio", f"add {word} {text}")

    def test_nothing_to_undo_on_a_new_desk(self):
        for number in (0, 1, 2, 9999):
            self.refused(Desk(), f"undo {number}", "nothing to undo")


if __name__ == "__main__":
    unittest.main()
