"""The meaning of core expressions once more, for the tests: straight from the document, by Python's own recursion.

Plain is that of points PL1 to PL5, and Joined that of points MA1 to MA4, with the measures at every moment.
"""

from halfnoted.checks import check_of, check_size, join
from halfnoted.types import ground, ground_type
from trees import ANY


class End(Exception):
    """A run ends otherwise than with a value."""


class Cell:
    """A box."""

    def __init__(self, held):
        self.held = held


class Around:
    """A value with something around it: ("ground", G), ("cast", A, B, number, side) or ("check", s)."""

    def __init__(self, inside, by):
        self.inside = inside
        self.by = by


class Meaning:
    """What both meanings have in common: everything but casts, and what is done with values that are wrapped."""

    def __init__(self, calls):
        self.calls = calls
        self.prints = []

    def outcome(self, core):
        try:
            end = ("value", shape(self.run(core)))
        except End as stopped:
            end = stopped.args
        return tuple(self.prints), end

    def enter(self):
        if self.calls == 0:
            raise End("calls")
        self.calls -= 1

    def bound(self, function, argument):
        """The body of a function that is not wrapped, and its names."""
        core, scope = function
        if core[0] == "fun":
            return core[3], {**scope, core[1]: argument}
        return core[5], {**scope, core[1]: function, core[2]: argument}

    def simple(self, core, scope):
        """The value of an expression without parts, or of a function."""
        if core[0] in ("num", "flag"):
            return core[1]
        if core[0] == "name":
            return scope[core[1]]
        if core[0] == "unit":
            return "unit"
        return Closed((core, scope))

    def combined(self, core, values):
        """The value of an expression of another form that waits for all its parts."""
        if core[0] == "pair":
            return tuple(values)
        if core[0] in ("fst", "snd"):
            return self.half(values[0], core[0] == "snd")
        if core[0] == "box":
            return Cell(values[0])
        if core[0] == "get":
            return self.get(values[0])
        if core[0] == "put":
            self.put(*values)
            return "unit"
        if core[0] == "not":
            return values[0] is False
        left, right = values
        results = {"<": left < right, "==": left == right, "+": left + right, "-": left - right, "*": left * right}
        result = results[core[1]]
        if isinstance(result, bool):
            return result
        while result > 2 ** 31 - 1:
            result -= 2 ** 32 * max(1, result // 2 ** 32)
        while result < -2 ** 31:
            result += 2 ** 32 * max(1, -result // 2 ** 32)
        return result


class Closed(tuple):
    """A function: its core expression and its names."""


def shape(value):
    while isinstance(value, Around):
        value = value.inside
    name = kind(value)
    return (name, value) if name in ("int", "bool") else (name,)


def kind(value):
    """The ground of a value that has nothing around it."""
    return {bool: "bool", int: "int", str: "unit", Closed: "fun", tuple: "pair", Cell: "box"}[type(value)]


class Plain(Meaning):
    def run(self, core, scope=None):
        scope = scope or {}
        if core[0] in ("num", "flag", "unit", "name", "fun", "rec"):
            return self.simple(core, scope)
        if core[0] == "cast":
            return self.cast(self.run(core[4], scope), core[2], core[3], core[1], 1)
        if core[0] == "let":
            return self.run(core[3], {**scope, core[1]: self.run(core[2], scope)})
        if core[0] == "if":
            return self.run(core[2] if self.run(core[1], scope) else core[3], scope)
        if core[0] == "print":
            self.prints.append(self.run(core[1], scope))
            return self.run(core[2], scope)
        values = [self.run(part, scope) for part in core[2 if core[0] == "op" else 1:]]
        return self.call(*values) if core[0] == "call" else self.combined(core, values)

    def cast(self, value, source, target, number, side):
        if source == target == ANY or source == target and len(source) == 1:
            return value
        if target == ANY:
            name = ground(source)
            return Around(self.cast(value, source, ground_type(name), number, side), ("ground", name))
        if source == ANY:
            if value.by != ("ground", ground(target)):
                raise End("blame", number, side)
            return self.cast(value.inside, ground_type(ground(target)), target, number, side)
        return Around(value, ("cast", source, target, number, side))

    def call(self, function, argument):
        if not isinstance(function, Around):
            self.enter()
            return self.run(*self.bound(function, argument))
        _, source, target, number, side = function.by
        result = self.call(function.inside, self.cast(argument, target[1], source[1], number, 1 - side))
        return self.cast(result, source[2], target[2], number, side)

    def half(self, value, at):
        if not isinstance(value, Around):
            return value[at]
        _, source, target, number, side = value.by
        return self.cast(self.half(value.inside, at), source[1 + at], target[1 + at], number, side)

    def get(self, value):
        if not isinstance(value, Around):
            return value.held
        _, source, target, number, side = value.by
        return self.cast(self.get(value.inside), source[1], target[1], number, side)

    def put(self, value, stored):
        if not isinstance(value, Around):
            value.held = stored
            return
        _, source, target, number, side = value.by
        self.put(value.inside, self.cast(stored, target[1], source[1], number, 1 - side))


class Joined(Meaning):
    """The machine. The pending checks outside are a list, the one for the value that is wanted stands by itself."""

    def __init__(self, calls):
        super().__init__(calls)
        self.measures = (0, 0, 0)
        self.moments = []

    def measured(self, core):
        return self.outcome(core) + (self.measures,)

    def note(self, waiting, pending):
        moment = (waiting, len(pending), sum(check_size(check) for check in pending))
        self.moments.append((waiting, pending))
        self.measures = tuple(max(pair) for pair in zip(self.measures, moment))

    def run(self, core, scope=None, waiting=0, outside=(), check=None):
        scope = scope or {}
        pending = outside + (() if check is None else (check,))
        self.note(waiting, pending)

        def part(one):
            return self.run(one, scope, waiting + 1, pending)

        def instead(one, inner, check):
            return self.run(one, inner, waiting, outside, check)

        if core[0] in ("num", "flag", "unit", "name", "fun", "rec"):
            return self.done(check, self.simple(core, scope))
        if core[0] == "cast":
            new = check_of(core[2], core[3], number=core[1], side=1)
            return instead(core[4], scope, self.before(new, check))
        if core[0] == "let":
            return instead(core[3], {**scope, core[1]: part(core[2])}, check)
        if core[0] == "if":
            return instead(core[2] if part(core[1]) else core[3], scope, check)
        if core[0] == "print":
            self.prints.append(part(core[1]))
            return instead(core[2], scope, check)
        values = [part(one) for one in core[2 if core[0] == "op" else 1:]]
        if core[0] != "call":
            return self.done(check, self.combined(core, values))
        function, argument = values
        if isinstance(function, Around):
            argument = self.done(function.by[1], argument)
            check = self.before(function.by[2], check)
            function = function.inside
        self.note(waiting, outside + (() if check is None else (check,)))
        self.enter()
        return instead(*self.bound(function, argument), check)

    def before(self, new, check):
        return new if check is None else join(new, check)

    def done(self, check, value):
        if check is None or check[0] in ("any", "same"):
            return value
        if check[0] == "give":
            return self.done(check[1], value)
        inner = value.inside if isinstance(value, Around) else value
        if check[0] == "fail" or check[0] == "take" and check[1] != kind(inner):
            raise End("blame", *check[2])
        if check[0] == "take":
            return self.done(check[3], value)
        if isinstance(value, Around):
            check = join(value.by, check)
        return Around(inner, check)

    def half(self, value, at):
        if not isinstance(value, Around):
            return value[at]
        return self.done(value.by[1 + at], value.inside[at])

    def get(self, value):
        if not isinstance(value, Around):
            return value.held
        return self.done(value.by[2], value.inside.held)

    def put(self, value, stored):
        if not isinstance(value, Around):
            value.held = stored
        else:
            value.inside.held = self.done(value.by[1], stored)


class Rooms(Joined):
    """Running code, point RU2: the pending checks of the calls outside are a tuple, that of the current one apart."""

    def run(self, core, scope=None, outside=(), check=None, is_tail=True):
        scope = scope or {}
        self.note(outside, check)

        def part(one):
            return self.run(one, scope, outside, check, False)

        def instead(one, inner):
            return self.run(one, inner, outside, check, is_tail)

        if core[0] == "cast":
            new = check_of(core[2], core[3], number=core[1], side=1)
            if is_tail:
                return self.run(core[4], scope, outside, self.before(new, check), True)
            return self.done(new, part(core[4]))
        if core[0] == "let":
            return instead(core[3], {**scope, core[1]: part(core[2])})
        if core[0] == "if":
            return instead(core[2] if part(core[1]) else core[3], scope)
        if core[0] == "print":
            self.prints.append(part(core[1]))
            return instead(core[2], scope)
        if core[0] in ("num", "flag", "unit", "name", "fun", "rec"):
            value = self.simple(core, scope)
        else:
            values = [part(one) for one in core[2 if core[0] == "op" else 1:]]
            if core[0] == "call":
                return self.call(*values, *((outside, check) if is_tail else (outside + (check,), None)))
            value = self.combined(core, values)
        return self.done(check, value) if is_tail else value

    def call(self, function, argument, outside, check):
        self.note(outside, check)
        if isinstance(function, Around):
            argument = self.done(function.by[1], argument)
            check = self.before(function.by[2], check)
            function = function.inside
        self.note(outside, check)
        self.enter()
        return self.run(*self.bound(function, argument), outside, check, True)

    def note(self, outside, check):
        pending = [one for one in outside + (check,) if one is not None]
        moment = (len(outside) + 1, sum(check_size(one) for one in pending))
        self.measures = tuple(max(pair) for pair in zip(self.measures, moment))
