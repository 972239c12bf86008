"""Expressions and types for the tests: every form, all small types, and random ones."""

import itertools

INT, BOOL, UNIT, ANY = ("int",), ("bool",), ("unit",), ("any",)
WORD_TYPES = (INT, BOOL, UNIT, ANY)
F, G, X, Y, Z = ("name", "f"), ("name", "g"), ("name", "x"), ("name", "y"), ("name", "z")
SIGNS = ("+", "-", "*", "<", "==")
LEAVES = (
    ("num", 0), ("num", 1), ("num", 2 ** 31 - 1), ("flag", True), ("flag", False), ("unit",), X, ("name", "a" * 20))


def fun(given, result):
    return ("fun", given, result)


def pair(first, second):
    return ("pair", first, second)


def box(inside):
    return ("box", inside)


# Each form that has parts: how many parts and how many annotations it has, and how it is made of them.
FORMS = {
    "call": (2, 0, lambda e, t: ("call", e[0], e[1])),
    "fun": (1, 1, lambda e, t: ("fun", "x", t[0], e[0])),
    "rec": (1, 2, lambda e, t: ("rec", "h", "x", t[0], t[1], e[0])),
    "let": (2, 0, lambda e, t: ("let", "x", e[0], e[1])),
    "if": (3, 0, lambda e, t: ("if", e[0], e[1], e[2])),
    "pair": (2, 0, lambda e, t: ("pair", e[0], e[1])),
    "fst": (1, 0, lambda e, t: ("fst", e[0])),
    "snd": (1, 0, lambda e, t: ("snd", e[0])),
    "box": (1, 0, lambda e, t: ("box", e[0])),
    "get": (1, 0, lambda e, t: ("get", e[0])),
    "put": (2, 0, lambda e, t: ("put", e[0], e[1])),
    "not": (1, 0, lambda e, t: ("not", e[0])),
    "print": (2, 0, lambda e, t: ("print", e[0], e[1])),
    "as": (1, 1, lambda e, t: ("as", e[0], t[0])),
}
for _sign in SIGNS:
    FORMS[_sign] = (2, 0, lambda e, t, sign=_sign: ("op", sign, e[0], e[1]))

TYPE_FORMS = {
    "fun": (2, lambda t: fun(t[0], t[1])),
    "pair": (2, lambda t: pair(t[0], t[1])),
    "box": (1, lambda t: box(t[0])),
}


def places(forms):
    """The places where an expression, or a type, can stand inside a form: pairs (form, index of the part)."""
    return [(name, at) for name, form in forms.items() for at in range(form[0])]


def around(place, inner, other=Y, given=INT):
    """An expression with the inner one in a place; the other parts and the annotations are as they are given."""
    name, at = place
    many_parts, many_types, make = FORMS[name]
    parts = [other] * many_parts
    parts[at] = inner
    return make(parts, [given] * many_types)


def type_around(place, inner, other=INT):
    """A type with the inner one in a place."""
    name, at = place
    many, make = TYPE_FORMS[name]
    parts = [other] * many
    parts[at] = inner
    return make(parts)


def all_types(height, words=WORD_TYPES):
    """All types up to a height, made from these words."""
    found = list(words)
    for _ in range(height - 1):
        lower = found
        found = list(words) + [box(one) for one in lower]
        for one, other in itertools.product(lower, lower):
            found += [fun(one, other), pair(one, other)]
    return found


def random_type(chance, height, words=WORD_TYPES):
    if height == 1 or chance.random() < 0.3:
        return chance.choice(words)
    many, make = chance.choice(list(TYPE_FORMS.values()))
    return make([random_type(chance, height - 1, words) for _ in range(many)])


def random_expression(chance, depth, names=("x", "y", "z", "f", "h")):
    """An expression of any forms; it need not have a type."""
    if depth == 1 or chance.random() < 0.15:
        name = ("name", chance.choice(names))
        number = ("num", chance.randrange(2 ** 31))
        return chance.choice([number, ("flag", chance.random() < 0.5), ("unit",), name, name])
    many_parts, many_types, _ = FORMS[chance.choice(list(FORMS))]
    name = chance.choice([name for name in FORMS if FORMS[name][:2] == (many_parts, many_types)])
    parts = [random_expression(chance, depth - 1, names) for _ in range(many_parts)]
    types = [random_type(chance, min(3, depth - 1)) for _ in range(many_types)]
    return FORMS[name][2](parts, types)


def less_exact_types(given):
    """All types that are at most as exact as this one: each of its parts, or any, in each place."""
    found = [ANY]
    if given != ANY:
        for inside in itertools.product(*[less_exact_types(part) for part in given[1:]]):
            found.append((given[0],) + inside)
    return found


def weakened(chance, given, share=0.3):
    """A random type that is at most as exact as this one."""
    if chance.random() < share:
        return ANY
    return (given[0],) + tuple(weakened(chance, part, share) for part in given[1:])


def depth(tree):
    """The depth of an expression or a type (point RE4)."""
    return 1 + max([depth(part) for part in tree if isinstance(part, tuple)], default=0)
