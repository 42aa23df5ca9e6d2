"""Ears: receivers that keep what they read, and whose changes can be taken back."""

from beamframes.errors import NothingToUndo
from beamframes.receivers import need_receiver, reads
from beamframes.whole import is_whole_from


class Course:
    """A receiver that is held, what was read, and what it takes to take changes back."""

    def __init__(self, receiver):
        self.held = receiver
        self.readings = []
        # For each change the receiver that was given up, or None where a burst was heard.
        self.before = []

    def hear(self, burst):
        """What is read of a burst, which is kept."""
        reading = reads(self.held, burst)
        self.readings.append(reading)
        self.before.append(None)
        return reading

    def exchange(self, receiver):
        """Goes on with another receiver."""
        self.before.append(self.held)
        self.held = receiver

    def take_back(self, count):
        """Takes the last changes back; NothingToUndo unless there are as many."""
        if not is_whole_from(count, 1, len(self.before)):
            raise NothingToUndo(count)
        for _ in range(count):
            given_up = self.before.pop()
            if given_up is None:
                self.readings.pop()
            else:
                self.held = given_up

    def twin(self):
        """An independent course that is the same up to now."""
        other = Course(self.held)
        other.readings = list(self.readings)
        other.before = list(self.before)
        return other


class Ear:
    """Reads bursts by a receiver, and keeps what it reads."""

    def __init__(self, receiver):
        self._course = Course(need_receiver(receiver))

    def __call__(self, burst):
        return self._course.hear(burst)

    @property
    def receiver(self):
        """The receiver by which bursts are read now."""
        return self._course.held

    @property
    def heard(self):
        """The tuple of all that was read."""
        return tuple(self._course.readings)

    @property
    def changes(self):
        """The number of changes that can be taken back."""
        return len(self._course.before)

    def exchange(self, receiver):
        """Goes on with another receiver; what was read stays as it was."""
        self._course.exchange(need_receiver(receiver))

    def __isub__(self, count):
        self._course.take_back(count)
        return self

    def __len__(self):
        return len(self._course.readings)

    def __contains__(self, thing):
        return thing in self._course.readings

    def twin(self):
        """An independent ear with the same receivers, readings and changes."""
        other = Ear(self._course.held)
        other._course = self._course.twin()
        return other

    def trial(self):
        """An object for one with statement, at whose end the ear is again as at its beginning."""
        return Trial(self)


class Trial:
    """Gives an ear to a with statement, and brings it back at the end to what it was at the beginning."""

    def __init__(self, ear):
        self._ear = ear
        self._kept = None

    def __enter__(self):
        self._kept = self._ear._course.twin()
        return self._ear

    def __exit__(self, kind, value, trace):
        self._ear._course = self._kept


def under(manager, deed):
    """What a deed returns, called within a with statement over a manager with what this gives."""
    with manager as one:
        return deed(one)


def tried(ear, *bursts):
    """The list of what an ear would read of bursts; the ear stays as it was."""
    return [reads(ear.receiver, burst) for burst in bursts]
