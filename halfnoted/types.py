"""How types are to each other: consistent, at most as exact, and safe to cast on a side."""

ANY = ("any",)
INT = ("int",)
BOOL = ("bool",)
UNIT = ("unit",)

GROUND_TYPES = {
    "int": ("int",),
    "bool": ("bool",),
    "unit": ("unit",),
    "fun": ("fun", ("any",), ("any",)),
    "pair": ("pair", ("any",), ("any",)),
    "box": ("box", ("any",)),
}

ALL_SAFE = (True, True, True, True)
NONE_SAFE = (False, False, False, False)


def consistent(one, other):
    """Are two types equal wherever both have no any?"""
    return meeting(one, other) is not None


def less_exact(one, other):
    """Is one type at most as exact as the other?"""
    if one == ANY or one == other:
        return True
    if one[0] != other[0]:
        return False
    return all([less_exact(first, second) for first, second in zip(one[1:], other[1:])])


def meeting(one, other):
    """The least exact type that both types are at most as exact as, or None if they are not consistent."""
    # Names that are used more than once make types with parts in common, many times larger than the expression.
    # Such parts are equal at once, so they are not gone through.
    if one == ANY or one == other:
        return other
    if other == ANY:
        return one
    if one[0] != other[0]:
        return None
    met = [meeting(first, second) for first, second in zip(one[1:], other[1:])]
    if None in met:
        return None
    return (one[0], *met)


def holds_any(a_type):
    """Is a type any, or does any stand in it?"""
    return a_type == ANY or any([holds_any(part) for part in a_type[1:]])


def ground(a_type):
    """The ground of a type other than any."""
    return a_type[0]


def ground_type(name):
    """The ground type of a ground."""
    return GROUND_TYPES[name]


def height(a_type):
    """How many types stand inside one another, at most."""
    return 1 + max([height(part) for part in a_type[1:]], default=0)


def safe(source, target, *, side):
    """Is a side of the cast from one type to another one safe?"""
    return safe_sides(source, target)[side]


def safe_sides(one, other):
    """Which sides are safe: 0 and 1 of the cast from one type to the other, then 0 and 1 of the cast back.

    Read backwards, these four are what the cast back has with its sides turned, so that is how a part is turned.
    They are found together because a box type needs its part both ways: one way at a time, each box type around a
    part would double the work.
    """
    if one == ANY and other == ANY:
        return ALL_SAFE
    if other == ANY:
        return safe_sides_to_any(one)
    if one == ANY:
        sides = safe_sides_to_any(other)
        return sides[2:] + sides[:2]
    if one[0] != other[0]:
        return NONE_SAFE
    # Halves that are equal are gone through once, for the reason that meeting tells.
    if one[0] == "pair" and one[1] == one[2] and other[1] == other[2]:
        return safe_sides(one[1], other[1])
    inside = [safe_sides(first, second) for first, second in zip(one[1:], other[1:])]
    if one[0] == "fun":
        inside[0] = inside[0][::-1]
    if one[0] == "box":
        inside.append(inside[0][::-1])
    return tuple([all(each) for each in zip(ALL_SAFE, *inside)])


def safe_sides_to_any(a_type):
    """What safe_sides gives for a type other than any, and any."""
    to_ground = safe_sides(a_type, ground_type(ground(a_type)))
    return (to_ground[0], True, True, False)
