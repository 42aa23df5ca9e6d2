"""What the document promises of all functions and classes: point 2, and the interface as it is listed."""

import ast
import importlib
import inspect
import pathlib
import unittest
from contextlib import nullcontext
from fractions import Fraction

import beamframes
from beamframes.bursts import is_within, nearest, need_burst
from beamframes.confusing import check_taken, need_of, start_stands, taken
from beamframes.desk import Desk
from beamframes.ears import Ear, tried, under
from beamframes.errors import (
    BadBurst, BadNumber, BadPaper, BadRatio, BadReceiver, BadRow, BadStyle, BadTable, BadText, BadWord, FrameError,
    NothingToUndo,
)
from beamframes.frames import begin_of, frame_of, is_end, steps_of, word_of
from beamframes.limits import is_safe, limit_of, margin_of
from beamframes.presses import counted, first_wrong, need_row, need_style, wrong_row
from beamframes.ratios import Ratio
from beamframes.receivers import is_sending, need_receiver, reads
from beamframes.tables import is_word, need_table, words_of
from beamframes.texts import burst_text, read_burst, read_table, table_text
from tests.samples import NO_RATIOS, NO_RECEIVERS
from tests.told import ratios

PAIRS = ("pairs", (8, 4), (1, 1), (1, 3), 1, 2)
HALVES = ("halves", 5, 2)
RECEIVER = ((PAIRS, Ratio(1, 4)), (HALVES, Ratio(1, 5)))
BURST = ratios(5, 10, 5, 5, 5)
ROW = (("press", 0, True), ("hold", False), ("rest",), ("press", 1, True))
TAKEN = taken(RECEIVER, Ratio(9))
SAFE = taken(RECEIVER, Ratio(0))
# Each function with arguments by their names: the interface's parameters, in their order.
CALLS = (
    ("ratios", Ratio, {"num": 6, "den": 4}), ("ratios", Ratio.read, {"text": "6/4"}),
    ("tables", need_table, {"thing": PAIRS}), ("tables", is_word, {"table": PAIRS, "thing": (0, 1)}),
    ("tables", words_of, {"table": HALVES}),
    ("frames", frame_of, {"table": PAIRS, "word": (0, 1)}), ("frames", begin_of, {"table": HALVES}),
    ("frames", is_end, {"table": PAIRS, "place": (2, (), "")}),
    ("frames", steps_of, {"table": HALVES, "place": (0, (), "gap")}),
    ("frames", word_of, {"table": PAIRS, "frame": (8, 4, 1, 1, 1, 3, 1)}),
    ("bursts", need_burst, {"thing": BURST}),
    ("bursts", is_within, {"burst": BURST, "frame": (5, 10, 5, 5, 5), "tolerance": Ratio(1)}),
    ("bursts", nearest, {"table": HALVES, "burst": BURST}),
    ("receivers", need_receiver, {"thing": RECEIVER}), ("receivers", reads, {"receiver": RECEIVER, "burst": BURST}),
    ("receivers", is_sending, {"receiver": RECEIVER, "thing": (1, (0, 1))}),
    ("confusing", need_of, {"one": 3, "other": 1, "tolerance": Ratio(1, 4)}),
    ("confusing", start_stands, {"receiver": RECEIVER}),
    ("confusing", taken, {"receiver": RECEIVER, "tolerance": Ratio(9)}),
    ("confusing", check_taken, {"receiver": RECEIVER, "tolerance": Ratio(9), "paper": TAKEN}),
    ("limits", limit_of, {"receiver": RECEIVER}), ("limits", is_safe, {"receiver": RECEIVER, "tolerance": Ratio(1, 5)}),
    ("limits", margin_of, {"receiver": RECEIVER}),
    ("presses", need_style, {"thing": ("same", 3)}), ("presses", need_row, {"buttons": 2, "thing": ROW}),
    ("presses", counted, {"style": ("toggle",), "buttons": 2, "row": ROW}),
    ("presses", first_wrong, {"style": ("same", 0), "buttons": 2, "row": ROW}),
    ("presses", wrong_row, {"style": ("toggle",), "buttons": 2, "lost": 1, "rests": 1}),
    ("texts", table_text, {"table": PAIRS}), ("texts", burst_text, {"burst": BURST}),
    ("texts", read_table, {"text": "halves 5 2"}), ("texts", read_burst, {"text": "1 5/4 1"}),
    ("ears", under, {"manager": nullcontext(BURST), "deed": len}),
)
METHODS = (
    (Ratio, ("__init__", "read", "num", "den", "__str__", "__eq__", "__lt__", "__le__", "__gt__", "__ge__", "__add__",
             "__mul__")),
    (Ear, ("__init__", "__call__", "receiver", "heard", "changes", "exchange", "__isub__", "__len__", "__contains__",
           "twin", "trial")),
    (Desk, ("__init__", "execute")),
)
NO_TABLES = (
    (None, "form"), (True, "form"), ("halves", "form"), (list(HALVES), "form"), (list(PAIRS), "form"), ((), "form"),
    (("halves", 5), "form"), (RECEIVER, "form"), (("pairs", [8, 4], (1, 1), (1, 3), 1, 2), "header"),
    (("pairs", (8, True), (1, 1), (1, 3), 1, 2), "header"), (("pairs", (), [1, 1], (1, 3), 1, 2), "zero"),
    (("pairs", (), (1, 1), [1, 3], 1, 2), "one"), (("pairs", (), (1, 1), (1, True), 1, 2), "one"),
    (("pairs", (), (1, 1), (1, 3), True, 2), "stop"), (("pairs", (), (1, 1), (1, 3), 1, True), "bits"),
    (("halves", True, 2), "unit"), (("halves", 5, True), "bits"), (("halves", 5, 9), "bits"),
)
NO_BURSTS = (None, True, 1, "1", [], list(BURST), (), BURST[:2], (1, 3, 1), (True,), (Ratio(0),), [Ratio(1)])
NO_STRINGS = (None, True, 0, 1, b"", b"1", [], ["1"], (), ("1",), {}, object(), Ratio(1))


class Refusals(unittest.TestCase):
    def refused(self, error, attribute, told, call, *given, **named):
        with self.subTest(call=getattr(call, "__name__", "call"), told=told):
            with self.assertRaises(error) as caught:
                call(*given, **named)
            self.assertIs(type(caught.exception), error)
            found = getattr(caught.exception, attribute)
            self.assertEqual(found, told)
            self.assertIs(type(found), type(told))


class InterfaceTest(unittest.TestCase):
    def test_functions_stand_in_their_files_with_their_parameters(self):
        for file, call, named in CALLS:
            with self.subTest(file=file, call=call.__name__):
                self.assertEqual(call.__module__, f"beamframes.{file}")
                self.assertEqual(list(inspect.signature(call).parameters), list(named))
                if inspect.isfunction(call):
                    self.assertIs(getattr(importlib.import_module(f"beamframes.{file}"), call.__name__), call)
        self.assertEqual(inspect.signature(Ratio).parameters["den"].default, 1)
        found = list(inspect.signature(tried).parameters.values())
        self.assertEqual([one.name for one in found], ["ear", "bursts"])
        self.assertEqual(found[1].kind, inspect.Parameter.VAR_POSITIONAL)

    def test_methods_stand_in_their_classes_with_their_parameters(self):
        for own_class, names in METHODS:
            for name in names:
                self.assertIn(name, vars(own_class))
        for method, names in (
            (Ear.__init__, ["receiver"]), (Ear.__call__, ["burst"]), (Ear.exchange, ["receiver"]),
            (Ear.__isub__, ["count"]), (Ear.__contains__, ["thing"]), (Ear.twin, []), (Ear.trial, []),
            (Desk.__init__, []), (Desk.execute, ["command"]),
        ):
            self.assertEqual(list(inspect.signature(method).parameters)[1:], names)

    def test_files_have_no_imports_but_their_own_and_gcd(self):
        for path in pathlib.Path(beamframes.__file__).parent.glob("*.py"):
            for node in ast.walk(ast.parse(path.read_text())):
                self.assertNotIsInstance(node, (ast.Import, ast.Div))
                if isinstance(node, ast.ImportFrom):
                    self.assertTrue(node.module == "math" or node.module.startswith("beamframes."), path)
                if isinstance(node, ast.Constant):
                    self.assertNotIsInstance(node.value, (float, complex), path)


class AllCallsTest(unittest.TestCase):
    def test_by_position_and_by_name_in_any_order_and_again(self):
        for _, call, named in CALLS:
            with self.subTest(call=call.__name__):
                before = shown(named)
                found = call(*named.values())
                self.assertEqual(shown(call(**named)), shown(found))
                self.assertEqual(shown(call(**dict(reversed(list(named.items()))))), shown(found))
                self.assertEqual(shown(call(*named.values())), shown(found))
                self.assertEqual(shown(named), before)

    def test_later_changes_of_returned_lists_have_no_effect(self):
        ear = Ear(RECEIVER)
        for call, given in (
            (words_of, (HALVES,)), (steps_of, (HALVES, (0, (), "gap"))), (steps_of, (PAIRS, (0, (8, 4), ""))),
            (start_stands, (RECEIVER,)), (tried, (ear, BURST, BURST)),
        ):
            found = call(*given)
            self.assertIs(type(found), list)
            told = list(found)
            found.append(None)
            found[0] = None
            self.assertEqual(call(*given), told)

    def test_no_result_has_a_list_within_it(self):
        for _, call, named in CALLS:
            found = call(**named)
            self.assertEqual(shown(found).count("["), 1 if isinstance(found, list) else 0, call)

    def test_calls_without_a_result_return_none(self):
        ear = Ear(RECEIVER)
        self.assertIsNone(ear.exchange(RECEIVER))
        self.assertIsNone(Ear(RECEIVER).__init__(RECEIVER))

    def test_equality_with_objects_of_other_classes(self):
        for one in (Ratio(1), Ratio(0), Ear(RECEIVER), Desk(), Ear(RECEIVER).trial()):
            for other in (None, True, 0, 1, "1", (1, 1), [1], Fraction(1), 1.0, (), [], {}, object(), RECEIVER):
                self.assertIs(one == other, False)
                self.assertIs(one != other, True)

    def test_lists_that_are_refused_are_not_changed(self):
        for call, wrong in (
            (need_table, list(PAIRS)), (need_receiver, list(RECEIVER)), (need_burst, list(BURST)),
            (need_style, ["same", 1]), (lambda thing: need_row(1, thing), list(ROW)), (read_table, ["halves 5 2"]),
            (read_burst, ["1"]), (Ear(RECEIVER), list(BURST)), (Ear(RECEIVER).exchange, list(RECEIVER)),
            (lambda thing: frame_of(HALVES, thing), [0, 1]), (lambda thing: taken(RECEIVER, thing), [Ratio(1)]),
            (lambda thing: check_taken(RECEIVER, Ratio(9), thing), list(TAKEN)),
        ):
            before = shown(wrong)
            with self.assertRaises(FrameError):
                call(wrong)
            self.assertEqual(shown(wrong), before)
        command = ["list"]
        self.assertEqual([Desk().execute(command), command], ["bad command", ["list"]])


class OrderOfErrorsTest(Refusals):
    def test_bad_table_ahead_of_all_else(self):
        for thing, part in NO_TABLES:
            for call, behind in (
                (need_table, ()), (is_word, ((0, 1),)), (is_word, (None,)), (words_of, ()), (frame_of, ((0, 1),)),
                (frame_of, (None,)), (begin_of, ()), (is_end, ((0, (), "gap"),)), (is_end, (None,)),
                (steps_of, ((0, (), "gap"),)), (steps_of, (None,)), (word_of, ((5, 10, 10),)), (word_of, (None,)),
                (nearest, (BURST,)), (nearest, (None,)), (table_text, ()),
            ):
                self.refused(BadTable, "part", part, call, thing, *behind)

    def test_bad_receiver_ahead_of_all_else(self):
        for place, thing in (*NO_RECEIVERS, (1, (RECEIVER[0], [HALVES, Ratio(0)])), (0, ((HALVES, True),))):
            for call, behind in (
                (need_receiver, ()), (reads, (BURST,)), (reads, (None,)), (is_sending, (None,)), (start_stands, ()),
                (taken, (Ratio(1),)), (taken, (None,)), (check_taken, (Ratio(9), TAKEN)), (check_taken, (None, None)),
                (check_taken, (Ratio(9), None)), (limit_of, ()), (is_safe, (Ratio(1),)), (is_safe, (None,)),
                (margin_of, ()), (Ear, ()), (Ear(RECEIVER).exchange, ()),
            ):
                self.refused(BadReceiver, "place", place, call, thing, *behind)

    def test_then_bad_word_and_bad_burst(self):
        for thing in (None, True, 0, "01", [0, 1], (0, True), (False, 1), (0, 2), (0,), (0, 1, 1), ([0], 1)):
            self.refused(BadWord, "given", thing, frame_of, HALVES, thing)
        for thing in NO_BURSTS:
            for call, ahead, behind in (
                (need_burst, (), ()), (is_within, (), ((5,), Ratio(1))), (is_within, (), ((5,), None)),
                (nearest, (HALVES,), ()), (reads, (RECEIVER,), ()), (burst_text, (), ()), (Ear(RECEIVER), (), ()),
                (tried, (Ear(RECEIVER),), ()), (tried, (Ear(RECEIVER), BURST), (None, [])),
            ):
                self.refused(BadBurst, "given", thing, call, *ahead, thing, *behind)

    def test_then_bad_ratio_and_bad_paper(self):
        for thing in NO_RATIOS:
            for call, ahead, behind in (
                (is_within, (BURST, (5,)), ()), (taken, (RECEIVER,), ()), (check_taken, (RECEIVER,), (TAKEN,)),
                (check_taken, (RECEIVER,), (None,)), (is_safe, (RECEIVER,), ()), (need_of, (1, 1), ()),
            ):
                self.refused(BadRatio, "given", thing, call, *ahead, thing, *behind)
            self.refused(BadNumber, "given", True, need_of, 1, True, thing)
            self.refused(BadNumber, "given", True, need_of, True, None, thing)
        for thing in (None, "safe", (), ("safe",), list(SAFE), list(TAKEN), ("safe", *SAFE), TAKEN[:3]):
            self.refused(BadPaper, "part", "form", check_taken, RECEIVER, Ratio(0), thing)
        self.refused(BadPaper, "part", "stands", check_taken, RECEIVER, Ratio(0), ("safe", list(SAFE[1])))
        self.refused(BadPaper, "part", "first", check_taken, RECEIVER, Ratio(9), ("taken", list(TAKEN[1]), *TAKEN[2:]))

    def test_presses(self):
        for call, named in (
            (counted, {"row": None}), (first_wrong, {"row": None}), (wrong_row, {"lost": None, "rests": None}),
        ):
            for style in (None, ["short"], ("same", True), ("same", 10)):
                self.refused(BadStyle, "given", style, call, style, None, **named)
            for buttons in (None, True, 0, 5, "1"):
                self.refused(BadNumber, "given", buttons, call, ("short",), buttons, **named)
        for call in (counted, first_wrong):
            self.refused(BadRow, "moment", None, call, ("short",), 1, [])
            self.refused(BadRow, "moment", 0, call, ("short",), 1, (["rest"], None))
            self.refused(BadRow, "moment", 0, call, ("short",), 2, (("press", True, True),))
        self.refused(BadNumber, "given", True, wrong_row, ("short",), 1, True, None)
        self.refused(BadNumber, "given", False, wrong_row, ("short",), 1, 0, False)

    def test_texts_and_ratios(self):
        for thing in NO_STRINGS:
            self.refused(BadText, "word", 0, read_table, thing)
            self.refused(BadText, "word", 0, read_burst, thing)
            self.refused(BadRatio, "given", thing, Ratio.read, thing)
            self.assertEqual(Desk().execute(thing), "bad command")
        for num, den in ((True, 1), (1, True), (None, 1), (-1, 1), (1, 0), ("1", 1), ((1,), 1), (1, [1])):
            self.refused(BadRatio, "given", (num, den), Ratio, num, den)

    def test_an_error_leaves_an_ear_as_it_was(self):
        ear = Ear(RECEIVER)
        ear(BURST)
        for error, deed in (
            (BadBurst, lambda one: one(None)), (BadReceiver, lambda one: one.exchange(None)), (BadReceiver, lambda one: Ear(0)),
            (NothingToUndo, lambda one: one.__isub__(2)), (NothingToUndo, lambda one: one.__isub__(True)),
            (BadBurst, lambda one: tried(one, BURST, None)), (BadBurst, lambda one: under(one.trial(), lambda two: two(0))),
        ):
            with self.assertRaises(error):
                deed(ear)
            self.assertEqual([ear.receiver, ear.heard, ear.changes], [RECEIVER, ((1, (0, 0)),), 1])


def shown(thing):
    """A text of a thing in which ratios are told by their values."""
    if isinstance(thing, Ratio):
        return f"ratio {thing}"
    if isinstance(thing, (tuple, list)):
        inner = ", ".join(shown(part) for part in thing)
        return f"[{inner}]" if isinstance(thing, list) else f"({inner})"
    if isinstance(thing, dict):
        return "{" + ", ".join(f"{key}: {shown(part)}" for key, part in thing.items()) + "}"
    return f"{type(thing).__name__} {thing}"


if __name__ == "__main__":
    unittest.main()
