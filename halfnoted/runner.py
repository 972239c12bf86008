"""Running code: compiled rows, with joined checks."""

from halfnoted.checks import check_size
from halfnoted.machine import Checks
from halfnoted.runs import Gauge, Run
from halfnoted.values import called_inside, operated

# How many values these rows take; each pushes the result.
TAKEN = {"pair": 2, "fst": 1, "snd": 1, "box": 1, "get": 1, "put": 2, "op": 2, "not": 1}


def run_code(rows, calls):
    """The pair (prints, end) of a run of rows."""
    return CodeRun(rows, calls).outcome()


def run_room(rows, calls):
    """The triple (prints, end, (open calls, cells))."""
    run = CodeRun(rows, calls)
    prints, end = run.outcome()
    return prints, end, (run.depth.most, run.cells.most)


class Closure:
    """A function: the row where its body begins, whether it binds itself, and the bindings around it."""

    def __init__(self, at, is_rec, bindings):
        self.at = at
        self.is_rec = is_rec
        self.bindings = bindings

    def bindings_with(self, argument):
        """The bindings in the body."""
        if self.is_rec:
            return (argument, (self, self.bindings))
        return (argument, self.bindings)


class Call:
    """A call that is open: the row and the bindings to go back to, a pending check or None, and its size."""

    def __init__(self, at, bindings):
        self.at = at
        self.bindings = bindings
        self.pending = None
        self.cells = 0


class CodeRun(Run):
    """A run of rows. The bindings are a pair of the innermost value and the others, or None."""

    def __init__(self, rows, calls):
        super().__init__(Checks(), calls)
        self.rows = rows
        self.at = 0
        self.bindings = None
        self.stack = []
        self.open_calls = []
        self.depth = Gauge()
        self.cells = Gauge()

    def last_value(self):
        """Runs to the end, and returns the value there."""
        self.begin_call()
        while self.open_calls:
            row = self.rows[self.at]
            self.at += 1
            if row[0] in TAKEN:
                self.operate(row)
            else:
                self.step(row)
        return self.stack.pop()

    def operate(self, row):
        """Takes values, and pushes what the form with the name of the row makes of them."""
        taken = [self.stack.pop() for _ in range(TAKEN[row[0]])]
        self.stack.append(operated(self.casting, row, taken[::-1]))

    def step(self, row):
        """Does one of the other rows."""
        match row:
            case ("int", number):
                self.stack.append(number)
            case ("flag", flag):
                self.stack.append(flag)
            case ("unit",):
                self.stack.append(None)
            case ("load", inside):
                self.stack.append(self.loaded(inside))
            case ("close", at, is_rec):
                self.stack.append(Closure(at, is_rec, self.bindings))
            case ("bind",):
                self.bindings = (self.stack.pop(), self.bindings)
            case ("unbind",):
                _, self.bindings = self.bindings
            case ("print",):
                self.prints.append(self.stack.pop())
            case ("check", check):
                self.stack.append(self.casting.made(check, self.stack.pop()))
            case ("join", check):
                self.set_pending(self.casting.added(check, self.open_calls[-1].pending))
            case _:
                self.go(row)

    def go(self, row):
        """Does a row that goes on at another row than the next one."""
        match row:
            case ("jump", at):
                self.at = at
            case ("unless", at):
                if not self.stack.pop():
                    self.at = at
            case ("call",):
                self.begin_call()
                self.enter_function()
            case ("tail",):
                self.enter_function()
            case ("return",):
                self.end_call()

    def loaded(self, inside):
        """The value of the binding with this many bindings inside it."""
        bindings = self.bindings
        for _ in range(inside):
            _, bindings = bindings
        value, _ = bindings
        return value

    def begin_call(self):
        """Opens a call that goes back to the next row."""
        self.open_calls.append(Call(self.at, self.bindings))
        self.depth.change(1)

    def end_call(self):
        """Makes the pending check of the value on top, and goes back."""
        call = self.open_calls[-1]
        self.stack.append(self.casting.settled(call.pending, self.stack.pop()))
        self.set_pending(None)
        self.open_calls.pop()
        self.depth.change(-1)
        self.at = call.at
        self.bindings = call.bindings

    def set_pending(self, check):
        """Sets the pending check of the current call, or removes it if it is None."""
        call = self.open_calls[-1]
        cells = 0 if check is None else check_size(check)
        self.cells.change(cells - call.cells)
        call.pending = check
        call.cells = cells

    def enter_function(self):
        """Goes on in the body of a function, in the current call."""
        argument = self.stack.pop()
        function = self.stack.pop()
        pending = self.open_calls[-1].pending
        inner, argument, pending = called_inside(self.casting, function, argument, pending)
        self.set_pending(pending)
        self.enter()
        self.at = inner.at
        self.bindings = inner.bindings_with(argument)
