"""The plain meaning of core expressions: casts are made one by one, each where it stands."""

from halfnoted.evaluation import Evaluation
from halfnoted.runs import Stopped
from halfnoted.types import ANY, ground, ground_type
from halfnoted.values import Injected, Wrapped


def run_plain(core, calls):
    """The pair (prints, end) of a core expression that may enter this many bodies of functions."""
    return Evaluation(Casts(), core, calls).outcome()


class Casts:
    """Makes casts one by one (halfnoted/values.py).

    A cast is a tuple (source, target, number, side). What is pending is a pair of the first cast and the others, or
    None.
    """

    def of_cast(self, number, source, target):
        return (source, target, number, 1)

    def added(self, new, pending):
        return (new, pending)

    def settled(self, pending, value):
        while pending is not None:
            cast, pending = pending
            value = self.made(cast, value)
        return value

    def made(self, cast, value):
        source, target, number, side = cast
        if source == ANY and target == ANY:
            return value
        if target == ANY:
            name = ground(source)
            return Injected(self.made((source, ground_type(name), number, side), value), name)
        if source == ANY:
            if value.ground != ground(target):
                raise Stopped(("blame", number, side))
            return self.made((ground_type(value.ground), target, number, side), value.inside)
        if len(source) == 1:
            return value
        return Wrapped(value, cast)

    def halves(self, cast):
        source, target, number, side = cast
        out = (source[-1], target[-1], number, side)
        if source[0] == "pair":
            return (source[1], target[1], number, side), out
        return (target[1], source[1], number, 1 - side), out
