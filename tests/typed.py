"""Random expressions that have types: exact ones, and others that come from them."""

import random

from halfnoted.programs import annotations, numbered, with_annotations
from halfnoted.types import consistent
from trees import ANY, BOOL, INT, UNIT, box, fun, pair, random_type, weakened

WORDS = (INT, BOOL, UNIT)


def typed(chance, most, wanted, scope):
    """A random expression of an exact type without any in its annotations."""
    fitting = [("name", name) for name, given in scope.items() if given == wanted]
    if fitting and chance.random() < 0.4:
        return chance.choice(fitting)
    if most <= 1:
        return simplest(chance, wanted, scope)
    if chance.random() < 0.1:
        return simplest(chance, wanted, scope)
    make = chance.choice([called, called, chosen, named, printed, halved, got, written, written, written])
    return make(chance, most - 1, wanted, scope)


def simplest(chance, wanted, scope):
    """An expression of a type by the form that makes its values."""
    if wanted == INT:
        return ("num", chance.randrange(10))
    if wanted == BOOL:
        return ("op", chance.choice(("<", "==")), ("num", 1), ("num", 2))
    if wanted == UNIT:
        return ("unit",)
    if wanted[0] == "pair":
        return ("pair", simplest(chance, wanted[1], scope), simplest(chance, wanted[2], scope))
    if wanted[0] == "box":
        return ("box", simplest(chance, wanted[1], scope))
    name = chance.choice("xyz")
    body = typed(chance, 2, wanted[2], {**scope, name: wanted[1]})
    if chance.random() < 0.5:
        return ("fun", name, wanted[1], body)
    body = typed(chance, 2, wanted[2], {**scope, "h": wanted, name: wanted[1]})
    return ("rec", "h", name, wanted[1], wanted[2], body)


def some_type(chance):
    return random_type(chance, 2, WORDS)


def called(chance, most, wanted, scope):
    given = some_type(chance)
    return ("call", typed(chance, most, fun(given, wanted), scope), typed(chance, most, given, scope))


def chosen(chance, most, wanted, scope):
    condition = typed(chance, most, BOOL, scope)
    return ("if", condition, typed(chance, most, wanted, scope), typed(chance, most, wanted, scope))


def named(chance, most, wanted, scope):
    given, name = some_type(chance), chance.choice("xyz")
    return ("let", name, typed(chance, most, given, scope), typed(chance, most, wanted, {**scope, name: given}))


def printed(chance, most, wanted, scope):
    return ("print", typed(chance, most, INT, scope), typed(chance, most, wanted, scope))


def halved(chance, most, wanted, scope):
    if chance.random() < 0.5:
        return ("fst", typed(chance, most, pair(wanted, some_type(chance)), scope))
    return ("snd", typed(chance, most, pair(some_type(chance), wanted), scope))


def got(chance, most, wanted, scope):
    if wanted == UNIT:
        given = some_type(chance)
        return ("put", typed(chance, most, box(given), scope), typed(chance, most, given, scope))
    return ("get", typed(chance, most, box(wanted), scope))


def written(chance, most, wanted, scope):
    """Four annotations around one another, of which doubted can change the inner three."""
    found = typed(chance, most, wanted, scope)
    for _ in range(4):
        found = ("as", found, wanted)
    return found


def random_program(chance):
    """A random exact expression, which may print, and enter bodies of functions."""
    return typed(chance, chance.randrange(2, 6), some_type(chance), {})


def loosened(chance, given):
    """An expression that comes from this one by less exact annotations."""
    share = chance.choice((0.1, 0.3, 0.6))
    return with_annotations(given, [weakened(chance, one, share) for one in annotations(given)])


def doubted(chance, exact):
    """The expression with some values cast to any, to a type that they need not have, to any, and back."""
    types = annotations(exact)
    reached = 0
    for one in numbered(exact):
        if is_written(one) and chance.random() < 0.7:
            types[reached + 1:reached + 4] = ANY, changed(chance, types[reached]), ANY
        reached += {"fun": 1, "rec": 2, "as": 1}.get(one[0], 0)
    return with_annotations(exact, types)


def is_written(expression):
    for _ in range(4):
        if expression[0] != "as":
            return False
        expression = expression[1]
    return True


def changed(chance, given):
    """A type that differs from this one, often in a part alone."""
    if len(given) == 1 or chance.random() < 0.2:
        return random_type(chance, 2)
    at = chance.randrange(1, len(given))
    return given[:at] + (changed(chance, given[at]),) + given[at + 1:]


def chained(chance):
    """A value that is cast along a chain of types, and then used, part by part."""
    given = random_type(chance, 4)
    found = some_value(chance, given)
    for _ in range(chance.randrange(1, 7)):
        given = next_type(chance, given)
        found = ("as", found, given)
    return used(chance, found, given, 5)


def next_type(chance, given):
    """A random type that is consistent with this one."""
    if given == ANY:
        return random_type(chance, 4)
    if chance.random() < 0.2:
        return ANY
    return (given[0],) + tuple(next_type(chance, part) for part in given[1:])


def some_value(chance, given):
    """An expression of a type, which may have any in it."""
    if given == ANY:
        exact = random_type(chance, 2, WORDS)
        return ("as", some_value(chance, exact), ANY)
    if given == BOOL:
        return ("flag", chance.random() < 0.5)
    if given[0] == "fun":
        body = ("as", ("name", "x"), given[2]) if consistent(given[1], given[2]) else some_value(chance, given[2])
        return ("fun", "x", given[1], body)
    if given[0] == "box":
        return ("box", some_value(chance, given[1]))
    if given[0] == "pair":
        return ("pair", some_value(chance, given[1]), some_value(chance, given[2]))
    return simplest(chance, given, {})


def used(chance, found, given, most):
    """An expression that uses a value of a type."""
    if given == INT:
        return ("print", found, ("num", 1))
    if given in (BOOL, UNIT) or most == 0:
        return found
    if given == ANY:
        given = next_type(chance, ANY)
        return used(chance, ("as", found, given), given, most - 1)
    if given[0] == "fun":
        return used(chance, ("call", found, some_value(chance, given[1])), given[2], most - 1)
    if given[0] == "pair":
        at = chance.choice((1, 2))
        return used(chance, (("fst", "snd")[at - 1], found), given[at], most - 1)
    if chance.random() < 0.4:
        return used(chance, ("get", found), given[1], most - 1)
    changed_box = ("let", "u", ("put", ("name", "b"), some_value(chance, given[1])), ("get", ("name", "b")))
    return ("let", "b", found, used(chance, changed_box, given[1], most - 1))


def random_samples(many):
    """Random expressions of all the kinds above, for the tests of all roads."""
    for seed in range(many):
        chance = random.Random(seed)
        exact = random_program(chance)
        wrong = doubted(chance, exact)
        yield from (exact, loosened(chance, exact), wrong, loosened(chance, wrong), chained(chance), chained(chance))
