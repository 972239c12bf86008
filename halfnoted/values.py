"""Values, and what the forms of the language make of them.

Integers and flags are those of Python, the unit value is None, and a pair is a tuple of two values. How casts are
made is told by an object with these methods; what is to be done to a value is a cast or a check there:

- of_cast(number, source, target): what a cast of a core expression does;
- added(new, pending): what is pending for a value if something new is to be done before what is pending, or None;
- settled(pending, value): the value to which what is pending, if it is not None, has been done;
- made(by, value): the value to which one cast or check has been done;
- halves(by): what is done to the parts of a value that is wrapped: to the argument and the result of a function,
  to the first and the second part of a pair, to what is put into a box and what is got from it.
"""


class Function:
    """A function with the values of the names around it; it has a name of its own, or None there."""

    def __init__(self, own, name, body, scope):
        self.own = own
        self.name = name
        self.body = body
        self.scope = scope

    def scope_with(self, argument):
        """The values of the names in the body."""
        scope = dict(self.scope)
        if self.own is not None:
            scope[self.own] = self
        # The argument comes last, because it hides the function if both have one name.
        scope[self.name] = argument
        return scope


class Box:
    """A box holds a value that can change."""

    def __init__(self, held):
        self.held = held


class Wrapped:
    """A function, a pair or a box inside a cast or a check."""

    def __init__(self, inside, by):
        self.inside = inside
        self.by = by


class Injected:
    """A value that is taken for any, and its ground."""

    def __init__(self, inside, name):
        self.inside = inside
        self.ground = name


def bare(value):
    """The value inside all injections and wrappers."""
    while isinstance(value, (Injected, Wrapped)):
        value = value.inside
    return value


def ground_of(value):
    """The ground of a value, whatever stands around it."""
    inner = bare(value)
    if inner is None:
        return "unit"
    if isinstance(inner, bool):
        return "bool"
    if isinstance(inner, int):
        return "int"
    if isinstance(inner, tuple):
        return "pair"
    return "box" if isinstance(inner, Box) else "fun"


def shape(value):
    """What the end of a run shows of a value."""
    name = ground_of(value)
    if name in ("int", "bool"):
        return (name, bare(value))
    return (name,)


def operated(casting, form, values):
    """What a form makes of the values of its parts; the form is an expression or a row of the same name."""
    match form[0]:
        case "pair":
            return (values[0], values[1])
        case "fst":
            return half(casting, values[0], 0)
        case "snd":
            return half(casting, values[0], 1)
        case "box":
            return Box(values[0])
        case "get":
            return got(casting, values[0])
        case "put":
            return put(casting, values[0], values[1])
        case "op":
            return computed(form[1], values[0], values[1])
        case "not":
            return not values[0]


def half(casting, pair, at):
    """The first or the second part of a pair."""
    inner, done = unwrapped(casting, pair, at)
    return made_all(casting, done, inner[at])


def got(casting, box):
    """What is got from a box."""
    inner, done = unwrapped(casting, box, 1)
    return made_all(casting, done, inner.held)


def put(casting, box, stored):
    """Puts a value into a box, and gives the unit value."""
    inner, done = unwrapped(casting, box, 0)
    inner.held = made_all(casting, done[::-1], stored)
    return None


def unwrapped(casting, value, at):
    """What is inside the wrappers of a value, and the list of what these do to one of its parts, outermost last."""
    found = []
    while isinstance(value, Wrapped):
        found.append(casting.halves(value.by)[at])
        value = value.inside
    return value, found[::-1]


def called_inside(casting, function, argument, pending):
    """The function inside all wrappers, and the argument and what is pending for the result there."""
    while isinstance(function, Wrapped):
        into, out = casting.halves(function.by)
        argument = casting.made(into, argument)
        pending = casting.added(out, pending)
        function = function.inside
    return function, argument, pending


def made_all(casting, done, value):
    """The value to which all in a list has been done."""
    for by in done:
        value = casting.made(by, value)
    return value


def computed(sign, left, right):
    """The result of an operator."""
    match sign:
        case "<":
            return left < right
        case "==":
            return left == right
        case "+":
            return in_range(left + right)
        case "-":
            return in_range(left - right)
        case "*":
            return in_range(left * right)


def in_range(number):
    """An integer modulo 2 ** 32, as the one from -2 ** 31 to 2 ** 31 - 1."""
    return (number + 2 ** 31) % 2 ** 32 - 2 ** 31
