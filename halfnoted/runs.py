"""What the runs of all roads have in common."""

from halfnoted.errors import Refused
from halfnoted.values import shape


class Stopped(Refused):
    """A run has come to an end other than a value. It is caught where the run began."""

    def __init__(self, end):
        self.end = end


class Gauge:
    """A number that changes during a run, and the greatest one that it has been."""

    def __init__(self):
        self.now = 0
        self.most = 0

    def change(self, by):
        self.now += by
        self.most = max(self.most, self.now)


class Run:
    """A run: how casts are made in it (halfnoted/values.py), how many calls are left, and what it has printed.

    Each class below has the method last_value, which runs to the end and returns the value there.
    """

    def __init__(self, casting, calls):
        self.casting = casting
        self.calls = calls
        self.prints = []

    def enter(self):
        """Counts the body of a function that is entered."""
        if self.calls == 0:
            raise Stopped(("calls",))
        self.calls -= 1

    def outcome(self):
        """The pair of the prints and the end."""
        try:
            end = ("value", shape(self.last_value()))
        except Stopped as stopped:
            end = stopped.end
        return tuple(self.prints), end
