"""The machine: it runs core expressions with joined checks, which never pile up."""

from halfnoted.checks import check_of, check_size, join
from halfnoted.evaluation import Evaluation
from halfnoted.runs import Gauge, Stopped
from halfnoted.values import Wrapped, ground_of


def run_machine(core, calls):
    """The pair (prints, end), as run_plain gives it."""
    return Evaluation(Checks(), core, calls).outcome()


def run_measured(core, calls):
    """The triple (prints, end, measures)."""
    run = MeasuredRun(core, calls)
    prints, end = run.outcome()
    return prints, end, (run.waiting.most, run.pending.most, run.cells.most)


class Checks:
    """Makes casts by checks, which are joined (halfnoted/values.py)."""

    def of_cast(self, number, source, target):
        return check_of(source, target, number=number, side=1)

    def added(self, new, pending):
        return new if pending is None else join(new, pending)

    def settled(self, pending, value):
        return value if pending is None else self.made(pending, value)

    def made(self, check, value):
        match check:
            case ("any",):
                return value
            case ("same", _):
                return value
            case ("give", given):
                return self.made(given, value)
            case ("take", name, label, taken):
                if ground_of(value) != name:
                    raise Stopped(("blame", *label))
                return self.made(taken, value)
            case ("fail", _, label, _):
                raise Stopped(("blame", *label))
        if isinstance(value, Wrapped):
            return Wrapped(value.inside, join(value.by, check))
        return Wrapped(value, check)

    def halves(self, check):
        return check[1], check[2]


class MeasuredRun(Evaluation):
    """A run with joined checks, in which the expressions that wait and the checks that are pending are counted.

    It is a run of its own, because where checks are large, counting takes longer than all the rest.
    """

    def __init__(self, core, calls):
        super().__init__(Checks(), core, calls)
        self.waiting = Gauge()
        self.pending = Gauge()
        self.cells = Gauge()

    def begin(self, core, scope, pending):
        if self.frames:
            self.waiting.change(1)
        self.note(pending, 1)
        super().begin(core, scope, pending)

    def go_on(self, frame):
        if self.frames:
            self.waiting.change(-1)
        self.note(frame.pending, -1)
        super().go_on(frame)

    def note(self, pending, by):
        """Counts a check that becomes pending, or is no longer pending."""
        if pending is not None:
            self.pending.change(by)
            self.cells.change(by * check_size(pending))
