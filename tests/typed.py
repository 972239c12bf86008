"""Random expressions of a given type, with annotations that are exact."""

from trees import BOOL, INT, UNIT, box, fun, pair, random_type

WORDS = (INT, BOOL, UNIT)


def typed(chance, most, wanted, scope):
    """A random expression of an exact type without any in its annotations."""
    fitting = [("name", name) for name, given in scope.items() if given == wanted]
    if fitting and chance.random() < 0.4:
        return chance.choice(fitting)
    if most <= 1:
        return simplest(chance, wanted, scope)
    if chance.random() < 0.1:
        return simplest(chance, wanted, scope)
    make = chance.choice([called, chosen, named, printed, halved, got, written])
    return make(chance, most - 1, wanted, scope)


def simplest(chance, wanted, scope):
    """An expression of a type by the form that makes its values."""
    if wanted == INT:
        return ("num", chance.randrange(10))
    if wanted == BOOL:
        return ("op", chance.choice(("<", "==")), ("num", 1), ("num", 2))
    if wanted == UNIT:
        return ("unit",)
    if wanted[0] == "pair":
        return ("pair", simplest(chance, wanted[1], scope), simplest(chance, wanted[2], scope))
    if wanted[0] == "box":
        return ("box", simplest(chance, wanted[1], scope))
    name = chance.choice("xyz")
    body = typed(chance, 2, wanted[2], {**scope, name: wanted[1]})
    if chance.random() < 0.5:
        return ("fun", name, wanted[1], body)
    body = typed(chance, 2, wanted[2], {**scope, "h": wanted, name: wanted[1]})
    return ("rec", "h", name, wanted[1], wanted[2], body)


def some_type(chance):
    return random_type(chance, 2, WORDS)


def called(chance, most, wanted, scope):
    given = some_type(chance)
    return ("call", typed(chance, most, fun(given, wanted), scope), typed(chance, most, given, scope))


def chosen(chance, most, wanted, scope):
    condition = typed(chance, most, BOOL, scope)
    return ("if", condition, typed(chance, most, wanted, scope), typed(chance, most, wanted, scope))


def named(chance, most, wanted, scope):
    given, name = some_type(chance), chance.choice("xyz")
    return ("let", name, typed(chance, most, given, scope), typed(chance, most, wanted, {**scope, name: given}))


def printed(chance, most, wanted, scope):
    return ("print", typed(chance, most, INT, scope), typed(chance, most, wanted, scope))


def halved(chance, most, wanted, scope):
    if chance.random() < 0.5:
        return ("fst", typed(chance, most, pair(wanted, some_type(chance)), scope))
    return ("snd", typed(chance, most, pair(some_type(chance), wanted), scope))


def got(chance, most, wanted, scope):
    if wanted == UNIT:
        given = some_type(chance)
        return ("put", typed(chance, most, box(given), scope), typed(chance, most, given, scope))
    return ("get", typed(chance, most, box(wanted), scope))


def written(chance, most, wanted, scope):
    return ("as", typed(chance, most, wanted, scope), wanted)
