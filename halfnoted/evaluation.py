"""The evaluation of core expressions, for any way in which casts are made."""

from halfnoted.programs import parts
from halfnoted.runs import Run
from halfnoted.values import Function, called_inside, operated

# How many of their parts these forms wait for; the others wait for all.
AWAITED = {"fun": 0, "rec": 0, "cast": 0, "let": 1, "if": 1, "print": 1}


class Frame:
    """An expression whose value is wanted, what is pending for this value, and the values of its parts so far."""

    def __init__(self, core, scope, pending):
        self.core = core
        self.scope = scope
        self.pending = pending
        self.awaited = parts(core)[:AWAITED.get(core[0], 3)]
        self.known = []


class Evaluation(Run):
    """A run of a core expression.

    The frames stand in a list, because a run can be nested far deeper than Python's own calls. The last one is that
    of the expression that is evaluated, and all others wait.
    """

    def __init__(self, casting, core, calls):
        super().__init__(casting, calls)
        self.core = core
        self.frames = []
        self.value = None

    def last_value(self):
        """Runs to the end, and returns the value there."""
        self.begin(self.core, {}, None)
        while self.frames:
            self.step()
        return self.value

    def begin(self, core, scope, pending):
        """Begins to evaluate an expression, for whose value something may be pending."""
        self.frames.append(Frame(core, scope, pending))

    def step(self):
        """Begins the next part that the last expression waits for, or goes on with it if there is none."""
        last = self.frames[-1]
        if len(last.known) < len(last.awaited):
            self.begin(last.awaited[len(last.known)], last.scope, None)
        else:
            self.frames.pop()
            self.go_on(last)

    def go_on(self, frame):
        """Goes on with an expression that waits no more: at another expression in its place, or with its value."""
        match frame.core:
            case ("cast", number, source, target, part):
                by = self.casting.of_cast(number, source, target)
                self.begin(part, frame.scope, self.casting.added(by, frame.pending))
            case ("let", name, _, body):
                self.begin(body, {**frame.scope, name: frame.known[0]}, frame.pending)
            case ("if", _, first, second):
                self.begin(first if frame.known[0] else second, frame.scope, frame.pending)
            case ("print", _, body):
                self.prints.append(frame.known[0])
                self.begin(body, frame.scope, frame.pending)
            case ("call", _, _):
                self.call(frame.known[0], frame.known[1], frame.pending)
            case _:
                self.give(self.casting.settled(frame.pending, self.value_of(frame)))

    def call(self, function, argument, pending):
        """Evaluates the body of a function."""
        inner, argument, pending = called_inside(self.casting, function, argument, pending)
        # What is pending counts even if the body cannot be entered any more.
        self.begin(inner.body, inner.scope_with(argument), pending)
        self.enter()

    def give(self, value):
        """Gives a value to the expression that waits for it, or ends the run with it."""
        if self.frames:
            self.frames[-1].known.append(value)
        else:
            self.value = value

    def value_of(self, frame):
        """The value of an expression whose parts have values."""
        match frame.core:
            case ("num", number):
                return number
            case ("flag", flag):
                return flag
            case ("unit",):
                return None
            case ("name", name):
                return frame.scope[name]
            case ("fun", name, _, body):
                return Function(None, name, body, frame.scope)
            case ("rec", own, name, _, _, body):
                return Function(own, name, body, frame.scope)
            case _:
                return operated(self.casting, frame.core, frame.known)
