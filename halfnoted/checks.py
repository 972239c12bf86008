"""Checks: what one or several casts do to a value, and how checks are joined."""

from halfnoted.types import ANY, GROUND_TYPES, ground_type

MOST_HEIGHT = 60

# The heads of checks: of all, of those for values whose ground is known, and of those that stand in a take.
HEADS = ("any", "give", "fail", "take", "same", "fun", "pair", "box")
PLAIN_HEADS = ("same", "fun", "pair", "box")
TAKEN_HEADS = ("same", "fun", "pair", "box", "give", "fail")

# How many items each form has, and where checks and a label stand in the forms that have some.
LENGTHS = {"any": 1, "same": 2, "fun": 3, "pair": 3, "box": 3, "give": 2, "fail": 4, "take": 4}
CHECKS_AT = {"fun": (1, 2), "pair": (1, 2), "box": (1, 2), "give": (1,), "take": (3,)}
LABEL_AT = {"fail": 2, "take": 2}

SAME_GROUNDS = ("int", "bool", "unit")


def check_of(source, target, *, number, side):
    """The check of the cast from one type to another one, with the label (number, side)."""
    return check_between(source, target, (number, side))


def check_between(source, target, label):
    """The check of a cast with a label."""
    if source == ANY and target == ANY:
        return ("any",)
    if target == ANY:
        return ("give", check_between(source, ground_type(source[0]), label))
    if source == ANY:
        return ("take", target[0], label, check_between(ground_type(target[0]), target, label))
    if source[0] in SAME_GROUNDS:
        return ("same", source[0])
    if source[0] == "pair":
        return check_between_pairs(source, target, label)
    into = check_between(target[1], source[1], turned(label))
    return (source[0], into, check_between(source[-1], target[-1], label))


def check_between_pairs(source, target, label):
    """The check of a cast from one pair type to another one, with a label."""
    # Pairs of a pair and itself, many times over, have types that are far too large to go through. Halves that are
    # equal are done once, here and below; mostly they are one object, so that this is seen at once.
    first = check_between(source[1], target[1], label)
    if source[1] == source[2] and target[1] == target[2]:
        return ("pair", first, first)
    return ("pair", first, check_between(source[2], target[2], label))


def turned(label):
    """The label with its other side."""
    number, side = label
    return (number, 1 - side)


def join(first, second):
    """The check that does the first check and then the second one."""
    match first:
        case ("any",):
            return second
        case ("fail", _, _, _):
            return first
        case ("take", name, label, taken):
            return ("take", name, label, join(taken, second))
        case ("give", given):
            return join_given(first, given, second)
    match second:
        case ("fail", _, _, _):
            return second
        case ("give", given):
            return ("give", join(first, given))
    return join_plain(first, second)


def join_given(first, given, second):
    """Joins a give, and the check in it, with a check of values that are taken for any."""
    if second == ("any",):
        return first
    _, name, label, taken = second
    if source_ground(given) == name:
        return join(given, taken)
    return ("fail", source_ground(given), label, name)


def join_plain(first, second):
    """Joins two plain checks of the same ground."""
    if first[0] == "same":
        return first
    if first[0] == "pair":
        return join_pairs(first, second)
    # What goes into a function or a box comes to the outer check, the second one, first.
    return (first[0], join(second[1], first[1]), join(first[2], second[2]))


def join_pairs(one, other):
    """Joins two checks for pairs."""
    first = join(one[1], other[1])
    if one[1] == one[2] and other[1] == other[2]:
        return ("pair", first, first)
    return ("pair", first, join(one[2], other[2]))


def source_ground(check):
    """The ground of the values that a plain check, a give or a fail is for."""
    if check[0] == "give":
        return source_ground(check[1])
    if check[0] in ("same", "fail"):
        return check[1]
    return check[0]


def inside(check):
    """The list of the checks directly inside a check, from left to right."""
    return [check[at] for at in CHECKS_AT.get(check[0], ())]


def different_inside(check):
    """The list of the checks directly inside a check, without a second one that is equal to the first one."""
    found = inside(check)
    return found[:1] if found[:1] == found[1:] else found


def check_size(check):
    """How many checks there are in a check, itself included."""
    sizes = [check_size(one) for one in different_inside(check)]
    if len(sizes) < len(inside(check)):
        return 1 + 2 * sizes[0]
    return 1 + sum(sizes)


def check_height(check):
    """How many checks for functions, pairs and boxes stand inside one another, at most, and 1 more."""
    higher = 0 if check[0] in ("give", "take") else 1
    return higher + max([check_height(one) for one in different_inside(check)], default=0)


def labels(check):
    """The list of the labels in a check, from left to right, each once."""
    return list({label: True for label in all_labels(check)})


def all_labels(check):
    """The list of the labels in a check, from left to right; one may stand there more than once."""
    found = []
    if check[0] in LABEL_AT:
        found.append(check[LABEL_AT[check[0]]])
    for one in different_inside(check):
        found.extend(all_labels(one))
    return found


def first_blame(check, ground):
    """The label that a check blames for every value with this ground, or None."""
    match check:
        case ("fail", _, label, _):
            return label
        case ("take", name, label, taken):
            return first_blame(taken, ground) if name == ground else label
    return None


def is_check(value):
    """Is any value a check?"""
    return is_check_of(value, HEADS, MOST_HEIGHT)


def is_check_of(value, heads, most):
    """Is any value a check with one of these heads, and at most as high?"""
    if most == 0 or not isinstance(value, tuple) or len(value) == 0:
        return False
    if value[0] not in heads or len(value) != LENGTHS[value[0]]:
        return False
    match value:
        case ("any",):
            return True
        case ("same", name):
            return name in SAME_GROUNDS
        case ("give", given):
            return is_check_of(given, PLAIN_HEADS, most)
        case ("fail", name, label, wanted):
            return is_ground(name) and is_label(label) and is_ground(wanted) and name != wanted
        case ("take", name, label, taken):
            return is_label(label) and is_check_of(taken, TAKEN_HEADS, most) and source_ground(taken) == name
    return is_check_of(value[1], HEADS, most - 1) and is_check_of(value[2], HEADS, most - 1)


def is_ground(value):
    """Is any value the name of a ground?"""
    return isinstance(value, str) and value in GROUND_TYPES


def is_label(value):
    """Is any value a label?"""
    if not isinstance(value, tuple) or len(value) != 2:
        return False
    number, side = value
    return is_number(number) and is_number(side) and side < 2


def is_number(value):
    """Is any value an integer that is not negative?"""
    return isinstance(value, int) and not isinstance(value, bool) and value >= 0
