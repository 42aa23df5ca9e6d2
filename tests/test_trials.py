"""Trials of ears, and deeds done under a manager."""

import unittest

from beamframes.ears import Ear, tried, under
from beamframes.errors import BadBurst, BadReceiver, NothingToUndo
from tests.test_ears import HIGH, LOW, ONE, TWO, UNREAD, WIDE, state_of


class Halt(Exception):
    """Ends a block."""


class Manager:
    """Notes what is done with it, and gives something to as."""

    def __init__(self, given, keeps_errors=False):
        self.given, self.keeps_errors, self.noted = given, keeps_errors, []

    def __enter__(self):
        self.noted.append("enter")
        return self.given

    def __exit__(self, kind, error, trace):
        self.noted.append(kind)
        return self.keeps_errors


def heard_ear():
    """An ear with three changes."""
    ear = Ear(ONE)
    ear(HIGH)
    ear.exchange(TWO)
    ear(UNREAD)
    return ear


def hear_high(ear):
    ear(HIGH)


def hear_twice(ear):
    ear(UNREAD)
    ear(LOW)


def exchange_and_hear(ear):
    ear.exchange(WIDE)
    ear(UNREAD)


def take_one_back(ear):
    ear -= 1


def take_back_below_the_beginning(ear):
    ear(HIGH)
    ear -= 3


def take_three_back(ear):
    ear -= 3


def take_three_back_and_go_on(ear):
    ear -= 3
    ear.exchange(WIDE)
    ear(LOW)
    ear(LOW)
    ear.exchange(TWO)
    ear(LOW)


def do_nothing(ear):
    pass


DEEDS = (
    hear_high, hear_twice, exchange_and_hear, take_one_back, take_back_below_the_beginning, take_three_back,
    take_three_back_and_go_on, do_nothing,
)


class TrialTest(unittest.TestCase):
    def goes_on_as(self, ear, before):
        """The ear is as it was, and so are all its changes."""
        self.assertEqual(state_of(ear), before)
        twin = heard_ear()
        self.assertEqual(tried(ear, HIGH, LOW, UNREAD), tried(twin, HIGH, LOW, UNREAD))
        other = ear.twin()
        for _ in range(3):
            other -= 1
            twin -= 1
            self.assertEqual(state_of(other), state_of(twin))
        self.assertEqual(state_of(ear), before)

    def test_a_block_that_ends_by_itself(self):
        for deed in DEEDS:
            with self.subTest(deed=deed.__name__):
                ear = heard_ear()
                before = state_of(ear)
                with ear.trial() as one:
                    self.assertIs(one, ear)
                    self.assertEqual(state_of(ear), before)
                    deed(one)
                    self.assertEqual(state_of(ear) == before, deed is do_nothing)
                self.goes_on_as(ear, before)

    def test_a_block_that_an_error_ends(self):
        for deed in DEEDS:
            with self.subTest(deed=deed.__name__):
                ear = heard_ear()
                before = state_of(ear)
                error = Halt()
                with self.assertRaises(Halt) as caught:
                    with ear.trial() as one:
                        deed(one)
                        raise error
                self.assertIs(caught.exception, error)
                self.goes_on_as(ear, before)

    def test_errors_of_the_ear_itself(self):
        for error, deed in (
            (BadBurst, lambda ear: ear(None)), (BadReceiver, lambda ear: ear.exchange(())),
            (NothingToUndo, lambda ear: ear.__isub__(9)), (KeyboardInterrupt, self.interrupt),
        ):
            ear = heard_ear()
            before = state_of(ear)
            with self.assertRaises(error):
                with ear.trial() as one:
                    one(HIGH)
                    deed(one)
            self.goes_on_as(ear, before)

    def interrupt(self, ear):
        raise KeyboardInterrupt

    def test_within_the_block_the_ear_is_as_ever(self):
        ear = heard_ear()
        with ear.trial() as one:
            self.assertEqual(one(HIGH), (1, (1,)))
            self.assertEqual(state_of(ear), (TWO, ((0, (1,)), None, (1, (1,))), 4, 3))
            ear.exchange(WIDE)
            self.assertEqual(one(UNREAD), (0, (1,)))
            ear -= 5
            self.assertIs(ear, one)
            self.assertEqual(state_of(one), (ONE, ((0, (1,)),), 1, 1))
            self.assertIn((0, (1,)), one)
            self.assertNotIn(None, one)
            self.assertEqual(tried(one, LOW), [(0, (0,))])
        self.goes_on_as(ear, (TWO, ((0, (1,)), None), 3, 2))

    def test_the_block_begins_where_it_begins(self):
        # What comes between the call of trial and the block is no part of the block.
        ear = Ear(ONE)
        trial = ear.trial()
        ear(HIGH)
        with trial as one:
            one(LOW)
        self.assertEqual(state_of(ear), (ONE, ((0, (1,)),), 1, 1))

    def test_trial_changes_nothing_without_a_block(self):
        ear = heard_ear()
        before = state_of(ear)
        ear.trial()
        self.goes_on_as(ear, before)

    def test_return_and_break_end_a_block_too(self):
        ear = heard_ear()
        before = state_of(ear)
        for burst in (HIGH, LOW):
            with ear.trial() as one:
                one(burst)
                break
        self.goes_on_as(ear, before)

    def test_trials_within_trials(self):
        ear = heard_ear()
        before = state_of(ear)
        with ear.trial() as one:
            one(HIGH)
            between = state_of(ear)
            with ear.trial() as two:
                self.assertIs(two, ear)
                take_three_back_and_go_on(two)
                with self.assertRaises(Halt):
                    with two.trial() as three:
                        three -= 6
                        raise Halt
                self.assertEqual(state_of(ear), (TWO, ((0, (1,)), (0, (0,)), (0, (0,)), (1, (0,))), 6, 4))
            self.assertEqual(state_of(ear), between)
            ear -= 1
            self.assertEqual(state_of(ear), before)
            ear -= 2
        self.goes_on_as(ear, before)

    def test_an_error_that_goes_through_two_trials(self):
        ear = heard_ear()
        before = state_of(ear)
        with self.assertRaises(Halt):
            with ear.trial() as one:
                one(HIGH)
                with ear.trial() as two:
                    two -= 4
                    raise Halt
        self.goes_on_as(ear, before)

    def test_one_trial_behind_the_other(self):
        ear = heard_ear()
        before = state_of(ear)
        for deed in DEEDS:
            with ear.trial() as one:
                deed(one)
            self.goes_on_as(ear, before)
        hear_high(ear)
        self.assertEqual(ear.changes, 4)

    def test_a_twin_stays_behind_the_trial(self):
        ear = heard_ear()
        with ear.trial() as one:
            one(HIGH)
            inner = one.twin()
        self.assertEqual([ear.changes, inner.changes], [3, 4])
        outer = ear.twin()
        with ear.trial() as one:
            outer(LOW)
            one -= 3
        self.assertEqual([ear.changes, outer.changes, inner.changes], [3, 4, 4])
        with inner.trial() as one:
            with ear.trial() as two:
                one -= 1
                two -= 2
        self.assertEqual([ear.changes, inner.changes], [3, 4])


class UnderTest(unittest.TestCase):
    def test_what_the_deed_returns(self):
        ear = heard_ear()
        before = state_of(ear)
        self.assertEqual(under(ear.trial(), lambda one: one(HIGH)), (1, (1,)))
        self.assertEqual(under(deed=lambda one: one.changes, manager=ear.trial()), 3)
        self.assertIs(under(ear.trial(), lambda one: one), ear)
        self.assertIsNone(under(ear.trial(), take_three_back))
        self.assertEqual(state_of(ear), before)

    def test_an_error_goes_on(self):
        ear = heard_ear()
        before = state_of(ear)
        with self.assertRaises(BadBurst) as caught:
            under(ear.trial(), lambda one: [one(HIGH), one("burst")])
        self.assertEqual(caught.exception.given, "burst")
        self.assertEqual(state_of(ear), before)

    def test_within_another(self):
        ear = heard_ear()
        found = under(ear.trial(), lambda one: [one(HIGH), under(one.trial(), lambda two: two(LOW)), one.changes])
        self.assertEqual(found, [(1, (1,)), (1, (0,)), 4])
        self.assertEqual(ear.changes, 3)

    def test_any_manager(self):
        manager = Manager("given")
        self.assertEqual(under(manager, lambda one: [one, list(manager.noted)]), ["given", ["enter"]])
        self.assertEqual(manager.noted, ["enter", None])
        manager = Manager(None)
        with self.assertRaises(ZeroDivisionError):
            under(manager, lambda one: 1 // 0)
        self.assertEqual(manager.noted, ["enter", ZeroDivisionError])
        self.assertIsNone(under(Manager(None, keeps_errors=True), lambda one: 1 // 0))


if __name__ == "__main__":
    unittest.main()
