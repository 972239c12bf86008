"""What stands in expressions: their parts, their numbers and their annotations."""

from halfnoted.types import ANY, holds_any, less_exact

# Where the parts stand in each form. The cast of core expressions is here too, so that they have parts as well.
PARTS_AT = {
    "num": (), "flag": (), "unit": (), "name": (),
    "call": (1, 2),
    "fun": (3,),
    "rec": (5,),
    "let": (2, 3),
    "if": (1, 2, 3),
    "pair": (1, 2), "fst": (1,), "snd": (1,),
    "box": (1,), "get": (1,), "put": (1, 2),
    "op": (2, 3), "not": (1,),
    "print": (1, 2),
    "as": (1,),
    "cast": (4,),
}

# Where the annotations stand in the forms that have some.
ANNOTATIONS_AT = {"fun": (2,), "rec": (3, 4), "as": (2,)}


def parts(expression):
    """The list of the expressions directly inside an expression, or a core expression, from left to right."""
    return [expression[at] for at in PARTS_AT[expression[0]]]


def numbered(expression):
    """The list of all expressions in an expression; the index of each one is its number."""
    found = [expression]
    for part in parts(expression):
        found.extend(numbered(part))
    return found


def annotations(expression):
    """The list of the types in an expression, in the order of the numbers of the expressions that have them."""
    return [one[at] for one in numbered(expression) for at in ANNOTATIONS_AT.get(one[0], ())]


def with_annotations(expression, types):
    """The expression with these types in the places of its annotations."""
    tree, _ = annotated(expression, types, 0)
    return tree


def annotated(expression, types, used):
    """The expression with the types behind those that are used, and how many are used then."""
    form = list(expression)
    for at in ANNOTATIONS_AT.get(expression[0], ()):
        form[at] = types[used]
        used += 1
    for at in PARTS_AT[expression[0]]:
        form[at], used = annotated(expression[at], types, used)
    return tuple(form), used


def is_less_exact(one, other):
    """Does one expression come from the other by less exact annotations?"""
    if erased(one) != erased(other):
        return False
    return all([less_exact(first, second) for first, second in zip(annotations(one), annotations(other))])


def is_exact(expression):
    """Does any stand in no annotation of an expression?"""
    return not any([holds_any(annotation) for annotation in annotations(expression)])


def erased(expression):
    """The expression with any for each annotation."""
    return with_annotations(expression, [ANY for _ in annotations(expression)])
