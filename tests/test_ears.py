"""Ears: what is heard, exchanges, changes that are taken back, twins, and what would be read."""

import unittest
from fractions import Fraction
from random import Random

from beamframes import ears
from beamframes.ears import Ear, tried
from beamframes.errors import BadBurst, BadReceiver, NothingToUndo, StateError
from beamframes.ratios import Ratio
from beamframes.receivers import reads
from tests.samples import NO_RECEIVERS
from tests.told import ratios, receiver_of, told_reads

SMALL = ("pairs", (), (1, 1), (1, 3), 1, 1)
ONE = receiver_of((SMALL, Fraction(1, 4)))
TWO = receiver_of((("halves", 5, 1), Fraction(1, 5)), (SMALL, Fraction(3, 10)))
WIDE = receiver_of((SMALL, Fraction(99, 100)))
RECEIVERS = (ONE, TWO, WIDE)
LOW, HIGH, UNREAD = ratios(1, 1, 1), ratios(1, 3, 1), ratios(1, 2, 1)
BURSTS = (LOW, HIGH, UNREAD, ratios(5, 5, 5), ratios(5, 10, 5), ratios(1), ratios(1, Fraction(13, 4), 1))
NO_BURSTS = (None, True, 1, "1 1 1", [], list(LOW), (), LOW * 2, (Ratio(0),), (Ratio(1),) * 65, (1, 3, 1), Ratio(1))
NO_COUNTS = (
    None, True, False, 0, -1, -3, "1", "", 1.0, (1,), [1], [], Ratio(1), Fraction(1), object(), 10 ** 30, -10 ** 30,
)


def state_of(ear):
    return (ear.receiver, ear.heard, ear.changes, len(ear))


class Reference:
    """An ear that keeps all its states."""

    def __init__(self, receiver):
        self.states = [(receiver, ())]

    def hear(self, burst):
        receiver, heard = self.states[-1]
        self.states.append((receiver, (*heard, told_reads(receiver, burst))))

    def exchange(self, receiver):
        self.states.append((receiver, self.states[-1][1]))

    def state(self):
        receiver, heard = self.states[-1]
        return (receiver, heard, len(self.states) - 1, len(heard))


class EarTest(unittest.TestCase):
    def test_a_new_ear(self):
        for receiver in RECEIVERS:
            ear = Ear(receiver)
            self.assertIs(ear.receiver, receiver)
            self.assertEqual([ear.heard, ear.changes, len(ear)], [(), 0, 0])
            self.assertIs(Ear(receiver=receiver).receiver, receiver)
            self.assertNotIn(None, ear)

    def test_what_is_heard_is_kept(self):
        ear = Ear(ONE)
        told = []
        for burst in BURSTS * 3:
            found = ear(burst)
            self.assertEqual(found, told_reads(ONE, burst))
            told.append(found)
            self.assertEqual(state_of(ear), (ONE, tuple(told), len(told), len(told)))
            self.assertIs(type(ear.heard), tuple)
        self.assertEqual(ear(burst=HIGH), (0, (1,)))
        self.assertIsNone(ear(burst=UNREAD))
        self.assertEqual(ear.heard[-2:], ((0, (1,)), None))

    def test_exchange(self):
        ear = Ear(ONE)
        self.assertIsNone(ear(ratios(5, 5, 5)))
        self.assertIsNone(ear.exchange(TWO))
        self.assertEqual(state_of(ear), (TWO, (None,), 2, 1))
        self.assertEqual(ear(ratios(5, 5, 5)), (0, (1,)))
        self.assertIsNone(ear.exchange(receiver=ONE))
        self.assertEqual(state_of(ear), (ONE, (None, (0, (1,))), 4, 2))
        self.assertIsNone(ear(ratios(5, 5, 5)))
        # An exchange with the same receiver is a change as well.
        ear.exchange(ONE)
        self.assertEqual(state_of(ear), (ONE, (None, (0, (1,)), None), 6, 3))

    def test_one_change_taken_back(self):
        ear = Ear(ONE)
        same = ear
        ear(HIGH)
        ear.exchange(TWO)
        ear(UNREAD)
        for told in ((TWO, ((0, (1,)),), 2, 1), (ONE, ((0, (1,)),), 1, 1), (ONE, (), 0, 0)):
            ear -= 1
            self.assertIs(ear, same)
            self.assertEqual(state_of(ear), told)

    def test_several_and_all_changes_taken_back(self):
        for count in range(1, 8):
            ear, told = Ear(ONE), Reference(ONE)
            same = ear
            for number in range(7):
                if number % 3 == 1:
                    ear.exchange(RECEIVERS[number % 2 + 1])
                    told.exchange(RECEIVERS[number % 2 + 1])
                else:
                    ear(BURSTS[number])
                    told.hear(BURSTS[number])
            ear -= count
            del told.states[-count:]
            self.assertEqual(state_of(ear), told.state())
            self.assertIs(ear, same)
            # It goes on from there by the receiver that it had.
            ear(HIGH)
            told.hear(HIGH)
            self.assertEqual(state_of(ear), told.state())

    def test_what_cannot_be_taken_back(self):
        for changes in (0, 1, 3):
            ear = Ear(ONE)
            for burst in BURSTS[:changes]:
                ear(burst)
            before = state_of(ear)
            same = ear
            for count in (*NO_COUNTS, changes + 1, changes + 2):
                with self.subTest(changes=changes, count=count):
                    with self.assertRaises(NothingToUndo) as caught:
                        ear -= count
                    self.assertIs(caught.exception.count, count)
                    self.assertIsInstance(caught.exception, StateError)
                    self.assertIs(ear, same)
                    self.assertEqual(state_of(ear), before)

    def test_many_changes_at_random(self):
        random = Random(33)
        for _ in range(30):
            receiver = random.choice(RECEIVERS)
            ear, told = Ear(receiver), Reference(receiver)
            for _ in range(40):
                deed = random.random()
                if deed < 0.5:
                    burst = random.choice(BURSTS)
                    ear(burst)
                    told.hear(burst)
                elif deed < 0.7:
                    receiver = random.choice(RECEIVERS)
                    ear.exchange(receiver)
                    told.exchange(receiver)
                elif len(told.states) > 1:
                    count = random.randint(1, min(4, len(told.states) - 1))
                    ear -= count
                    del told.states[-count:]
                self.assertEqual(state_of(ear), told.state())

    def test_thousands_of_changes(self):
        ear = Ear(ONE)
        for _ in range(3000):
            ear(HIGH)
        self.assertEqual([ear.changes, len(ear), ear.heard], [3000, 3000, ((0, (1,)),) * 3000])
        ear -= 3000
        self.assertEqual(state_of(ear), (ONE, (), 0, 0))

    def test_membership(self):
        ear = Ear(TWO)
        self.assertNotIn((1, (1,)), ear)
        ear(HIGH)
        ear(ratios(5, 5, 5))
        word = tuple([1])
        self.assertIn((1, word), ear)
        self.assertIn((0, (1,)), ear)
        for thing in (
            None, (1, (0,)), (0, (0,)), (1,), (1, 1), (1, [1]), [1, (1,)], ((1, (1,)),), "1 1", 0, 1, True, {}, set(), [],
            (), Ratio(1), object(), TWO, HIGH, ear, float("nan"),
        ):
            self.assertNotIn(thing, ear)
        ear(UNREAD)
        self.assertIn(None, ear)
        ear -= 1
        self.assertNotIn(None, ear)
        ear -= 2
        self.assertNotIn((1, word), ear)

    def test_bad_receiver_leaves_the_ear_as_it_was(self):
        for place, thing in NO_RECEIVERS:
            for call in (lambda: Ear(thing), lambda: Ear(receiver=thing)):
                with self.assertRaises(BadReceiver) as caught:
                    call()
                self.assertEqual(caught.exception.place, place)
            ear = Ear(ONE)
            ear(HIGH)
            before = state_of(ear)
            with self.assertRaises(BadReceiver) as caught:
                ear.exchange(thing)
            self.assertEqual(caught.exception.place, place)
            self.assertEqual(state_of(ear), before)

    def test_bad_burst_leaves_the_ear_as_it_was(self):
        ear = Ear(ONE)
        ear(HIGH)
        before = state_of(ear)
        for thing in NO_BURSTS:
            with self.assertRaises(BadBurst) as caught:
                ear(thing)
            self.assertIs(caught.exception.given, thing)
            self.assertEqual(state_of(ear), before)

    def test_what_was_returned_does_not_change(self):
        ear = Ear(ONE)
        ear(HIGH)
        heard = ear.heard
        ear(UNREAD)
        ear -= 2
        self.assertEqual(heard, ((0, (1,)),))

    def test_properties_cannot_be_assigned(self):
        ear = Ear(ONE)
        for name in ("receiver", "heard", "changes"):
            with self.assertRaises(AttributeError):
                setattr(ear, name, ())
            self.assertIsInstance(vars(Ear)[name], property)

    def test_names_stand_in_their_file(self):
        for name in ("Ear", "under", "tried"):
            self.assertEqual(getattr(ears, name).__module__, "beamframes.ears")
        for name in (
            "__init__", "__call__", "receiver", "heard", "changes", "exchange", "__isub__", "__len__", "__contains__",
            "twin", "trial",
        ):
            self.assertIn(name, vars(Ear))


class TwinTest(unittest.TestCase):
    def ear(self):
        ear = Ear(ONE)
        ear(HIGH)
        ear.exchange(TWO)
        ear(UNREAD)
        return ear

    def test_a_twin_is_the_same_up_to_now(self):
        ear = self.ear()
        twin = ear.twin()
        self.assertIsInstance(twin, Ear)
        self.assertIsNot(twin, ear)
        self.assertEqual(state_of(twin), state_of(ear))
        self.assertEqual(state_of(Ear(ONE).twin()), (ONE, (), 0, 0))

    def test_both_go_on_by_themselves(self):
        for changed, kept in ((0, 1), (1, 0)):
            ear = self.ear()
            both = [ear, ear.twin()]
            before = state_of(ear)
            both[changed](HIGH)
            both[changed].exchange(WIDE)
            self.assertEqual(state_of(both[changed]), (WIDE, (*before[1], (1, (1,))), 5, 3))
            self.assertEqual(state_of(both[kept]), before)
            both[changed] -= 5
            self.assertEqual(state_of(both[changed]), (ONE, (), 0, 0))
            self.assertEqual(state_of(both[kept]), before)
            self.assertEqual(both[kept](HIGH), (1, (1,)))

    def test_changes_of_a_twin_are_taken_back_one_by_one(self):
        twin = self.ear().twin()
        for told in ((TWO, ((0, (1,)),), 2, 1), (ONE, ((0, (1,)),), 1, 1), (ONE, (), 0, 0)):
            twin -= 1
            self.assertEqual(state_of(twin), told)
        with self.assertRaises(NothingToUndo):
            twin -= 1

    def test_a_twin_of_a_twin(self):
        ear = self.ear()
        twin = ear.twin()
        twin(LOW)
        other = twin.twin()
        twin -= 4
        self.assertEqual([ear.changes, twin.changes, other.changes], [3, 0, 4])
        self.assertEqual(other.heard, ((0, (1,)), None, (1, (0,))))


class TriedTest(unittest.TestCase):
    def test_none_one_and_several_bursts(self):
        for receiver in RECEIVERS:
            ear = Ear(receiver)
            ear(HIGH)
            before = state_of(ear)
            for bursts in ((), (HIGH,), (UNREAD,), BURSTS, BURSTS[::-1] * 3):
                found = tried(ear, *bursts)
                self.assertIs(type(found), list)
                self.assertEqual(found, [reads(receiver, burst) for burst in bursts])
                self.assertEqual(state_of(ear), before)
                found.append("more")
                self.assertEqual(tried(ear, *bursts), found[:-1])
            self.assertEqual(tried(ear=ear), [])

    def test_the_receiver_of_now(self):
        ear = Ear(ONE)
        five = ratios(5, 5, 5)
        self.assertEqual(tried(ear, five), [None])
        ear.exchange(TWO)
        self.assertEqual(tried(ear, five, HIGH), [(0, (1,)), (1, (1,))])
        ear -= 1
        self.assertEqual(tried(ear, five, HIGH), [None, (0, (1,))])

    def test_the_first_burst_that_is_none(self):
        ear = Ear(ONE)
        ear(HIGH)
        ear.exchange(TWO)
        before = state_of(ear)
        for thing in NO_BURSTS:
            for bursts in ((thing,), (HIGH, thing), (thing, HIGH), (HIGH, UNREAD, thing, None, []), (thing, "later")):
                with self.subTest(bursts=bursts):
                    with self.assertRaises(BadBurst) as caught:
                        tried(ear, *bursts)
                    self.assertIs(caught.exception.given, thing)
                    self.assertEqual(state_of(ear), before)


if __name__ == "__main__":
    unittest.main()
