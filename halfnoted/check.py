"""Elaboration: expressions as core expressions, with casts where types that are consistent differ."""

from halfnoted.errors import Mismatched, Unknown
from halfnoted.programs import parts
from halfnoted.types import ANY, BOOL, INT, UNIT, consistent, ground_type, meeting

CONSTANT_TYPES = {"num": ("int",), "flag": ("bool",), "unit": ("unit",)}


def elaborate(expression):
    """The pair of the core expression that an expression is turned into, and its type."""
    whole = Elaborator().elaborated(expression, {})
    return whole.core, whole.of_type


def casts(core):
    """The list of the triples (number, source, target) of the casts in a core expression, outer ones first."""
    found = []
    if core[0] == "cast":
        found.append(core[1:4])
    for part in parts(core):
        found.extend(casts(part))
    return found


class Part:
    """An expression that is elaborated: its number, its core expression and its type."""

    def __init__(self, number, core, of_type):
        self.number = number
        self.core = core
        self.of_type = of_type


def fit(part, target):
    """The core expression of a part that stands where this type is wanted."""
    if not consistent(part.of_type, target):
        raise Mismatched(part.number)
    if part.of_type == target:
        return part.core
    return ("cast", part.number, part.of_type, target, part.core)


def opened(part, name):
    """The core expression of a part whose type must have this ground, and the parts of the type.

    A part of type any fits the ground type.
    """
    wanted = part.of_type
    if wanted == ANY:
        wanted = ground_type(name)
    if wanted[0] != name:
        raise Mismatched(part.number)
    return fit(part, wanted), wanted[1:]


# Each of the rules takes an expression and its elaborated parts, and gives its core expression and its type.

def constant_rule(expression):
    return expression, CONSTANT_TYPES[expression[0]]


def call_rule(_, called, passed):
    called_core, (given, result) = opened(called, "fun")
    return ("call", called_core, fit(passed, given)), result


def if_rule(_, condition, first, second):
    condition_core = fit(condition, BOOL)
    met = meeting(first.of_type, second.of_type)
    if met is None:
        raise Mismatched(second.number)
    return ("if", condition_core, fit(first, met), fit(second, met)), met


def pair_rule(_, first, second):
    return ("pair", first.core, second.core), ("pair", first.of_type, second.of_type)


def half_rule(expression, whole):
    whole_core, (first, second) = opened(whole, "pair")
    half = first if expression[0] == "fst" else second
    return (expression[0], whole_core), half


def box_rule(_, held):
    return ("box", held.core), ("box", held.of_type)


def get_rule(_, box):
    box_core, (held,) = opened(box, "box")
    return ("get", box_core), held


def put_rule(_, box, stored):
    box_core, (held,) = opened(box, "box")
    return ("put", box_core, fit(stored, held)), UNIT


def op_rule(expression, left, right):
    sign = expression[1]
    result = BOOL if sign in ("<", "==") else INT
    return ("op", sign, fit(left, INT), fit(right, INT)), result


def not_rule(_, operand):
    return ("not", fit(operand, BOOL)), BOOL


def print_rule(_, printed, body):
    return ("print", fit(printed, INT), body.core), body.of_type


def as_rule(expression, annotated):
    return fit(annotated, expression[2]), expression[2]


RULES = {
    "num": constant_rule, "flag": constant_rule, "unit": constant_rule,
    "call": call_rule, "if": if_rule, "pair": pair_rule, "fst": half_rule, "snd": half_rule,
    "box": box_rule, "get": get_rule, "put": put_rule, "op": op_rule, "not": not_rule, "print": print_rule,
    "as": as_rule,
}


class Elaborator:
    """Numbers the expressions in the order in which it comes to them, which is the order of their numbers."""

    def __init__(self):
        self.reached = 0

    def elaborated(self, expression, scope):
        """The expression as a Part; the scope is the dict of the types of the names that are bound."""
        number = self.reached
        self.reached += 1
        core, of_type = self.core_and_type(expression, scope)
        return Part(number, core, of_type)

    def core_and_type(self, expression, scope):
        """The core expression and the type. The forms that bind names stand here, the others have rules."""
        match expression:
            case ("name", name):
                if name not in scope:
                    raise Unknown(name)
                return expression, scope[name]
            case ("fun", name, given, body):
                inner = self.elaborated(body, {**scope, name: given})
                return ("fun", name, given, inner.core), ("fun", given, inner.of_type)
            case ("rec", own, name, given, result, body):
                # The later one of two equal names is the one that counts, so the argument hides the function.
                inner = self.elaborated(body, {**scope, own: ("fun", given, result), name: given})
                return ("rec", own, name, given, result, fit(inner, result)), ("fun", given, result)
            case ("let", name, bound, body):
                outer = self.elaborated(bound, scope)
                inner = self.elaborated(body, {**scope, name: outer.of_type})
                return ("let", name, outer.core, inner.core), inner.of_type
            case _:
                rule = RULES[expression[0]]
                found = [self.elaborated(part, scope) for part in parts(expression)]
                return rule(expression, *found)
