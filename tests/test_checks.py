"""Checks: points CH1 to CH7, and what point TY6 says of them."""

import copy
import itertools
import random
import unittest

from halfnoted.checks import check_height, check_of, check_size, first_blame, is_check, join, labels
from halfnoted.reader import read_type
from halfnoted.types import consistent, ground, ground_type, height, safe
from trees import ANY, BOOL, INT, UNIT, all_types, box, fun, pair, random_type, weakened

SMALL = all_types(2)
GROUNDS = ("int", "bool", "unit", "fun", "pair", "box")
SAME = {"int": ("same", "int"), "bool": ("same", "bool"), "unit": ("same", "unit")}
KINDS = {"int": INT, "bool": BOOL, "unit": UNIT, "fun": fun(INT, BOOL), "pair": pair(INT, BOOL), "box": box(INT)}
I, B, U, NOTHING = ("same", "int"), ("same", "bool"), ("same", "unit"), ("any",)
L, R = (3, 1), (3, 0)


def give(check):
    return ("give", check)


def take(name, label, check):
    return ("take", name, label, check)


def fail(name, label, wanted):
    return ("fail", name, label, wanted)


def cast(source, target, number=3, side=1):
    """The check of a cast between types that are given as texts or as types."""
    types = [read_type(one) if isinstance(one, str) else one for one in (source, target)]
    return check_of(*types, number=number, side=side)


def chains(many, length, most):
    """Random chains of types, each of which is consistent with the next one."""
    for seed in range(many):
        chance = random.Random(seed)
        first = random_type(chance, most)
        chain = [weakened(chance, first, 0.2)]
        while len(chain) < length:
            if chain[-1] == ANY and chance.random() < 0.5:
                first = random_type(chance, most)
            wanted = weakened(chance, first, 0.2)
            chain.append(wanted if consistent(chain[-1], wanted) else ANY)
        yield chance, chain


def checks_of(chain):
    """The checks of the casts along a chain of types, with labels of their own."""
    return [check_of(one, other, number=at, side=1 - at % 2) for at, (one, other) in enumerate(zip(chain, chain[1:]))]


def nested(kind, depth, inner=INT):
    """A type of a kind inside itself."""
    for _ in range(depth):
        inner = {"fun": fun(UNIT, inner), "into": fun(inner, UNIT), "pair": pair(inner, BOOL), "box": box(inner)}[kind]
    return inner


class Ch3Casts(unittest.TestCase):
    def test_the_same_type_without_parts(self):
        for side in (0, 1):
            self.assertEqual(cast("int", "int", side=side), ("same", "int"))
            self.assertEqual(cast("bool", "bool", side=side), ("same", "bool"))
            self.assertEqual(cast("unit", "unit", side=side), ("same", "unit"))
            self.assertEqual(cast("any", "any", side=side), ("any",))

    def test_to_any(self):
        for side in (0, 1):
            for word, check in SAME.items():
                self.assertEqual(cast(word, "any", side=side), ("give", check))
            self.assertEqual(cast("any -> any", "any", side=side), ("give", ("fun", NOTHING, NOTHING)))
            self.assertEqual(cast("(any, any)", "any", side=side), ("give", ("pair", NOTHING, NOTHING)))
            self.assertEqual(cast("box any", "any", side=side), ("give", ("box", NOTHING, NOTHING)))

    def test_from_any(self):
        for side in (0, 1):
            label = (3, side)
            for word, check in SAME.items():
                self.assertEqual(cast("any", word, side=side), ("take", word, label, check))
            self.assertEqual(cast("any", "any -> any", side=side), ("take", "fun", label, ("fun", NOTHING, NOTHING)))
            self.assertEqual(cast("any", "(any, any)", side=side), ("take", "pair", label, ("pair", NOTHING, NOTHING)))
            self.assertEqual(cast("any", "box any", side=side), ("take", "box", label, ("box", NOTHING, NOTHING)))

    def test_types_with_parts_to_any(self):
        self.assertEqual(cast("int -> bool", "any"), give(("fun", take("int", R, I), give(B))))
        self.assertEqual(cast("int -> bool", "any", side=0), give(("fun", take("int", L, I), give(B))))
        self.assertEqual(cast("(int, bool)", "any"), give(("pair", give(I), give(B))))
        self.assertEqual(cast("box int", "any"), give(("box", take("int", R, I), give(I))))
        self.assertEqual(cast("box int", "any", side=0), give(("box", take("int", L, I), give(I))))
        self.assertEqual(cast("unit -> any", "any"), give(("fun", take("unit", R, U), NOTHING)))

    def test_types_with_parts_from_any(self):
        self.assertEqual(cast("any", "int -> bool"), take("fun", L, ("fun", give(I), take("bool", L, B))))
        self.assertEqual(cast("any", "int -> bool", side=0), take("fun", R, ("fun", give(I), take("bool", R, B))))
        self.assertEqual(cast("any", "(int, bool)"), take("pair", L, ("pair", take("int", L, I), take("bool", L, B))))
        self.assertEqual(cast("any", "box int"), take("box", L, ("box", give(I), take("int", L, I))))
        self.assertEqual(cast("any", "(any, unit)"), take("pair", L, ("pair", NOTHING, take("unit", L, U))))

    def test_the_same_kind(self):
        self.assertEqual(cast("int -> bool", "int -> bool"), ("fun", I, B))
        self.assertEqual(cast("any -> bool", "int -> any"), ("fun", give(I), give(B)))
        self.assertEqual(cast("int -> any", "any -> bool"), ("fun", take("int", R, I), take("bool", L, B)))
        self.assertEqual(cast("(int, any)", "(any, bool)"), ("pair", give(I), take("bool", L, B)))
        self.assertEqual(cast("(any, int)", "(bool, any)"), ("pair", take("bool", L, B), give(I)))
        self.assertEqual(cast("box int", "box int"), ("box", I, I))
        self.assertEqual(cast("box any", "box int"), ("box", give(I), take("int", L, I)))
        self.assertEqual(cast("box int", "box any"), ("box", take("int", R, I), give(I)))

    def test_labels_that_turn(self):
        self.assertEqual(
            cast("(any -> unit) -> unit", "(int -> unit) -> unit"), ("fun", ("fun", take("int", L, I), U), U))
        self.assertEqual(cast("(unit -> any) -> unit", "(unit -> int) -> unit"), ("fun", ("fun", U, give(I)), U))
        self.assertEqual(
            cast("(unit -> int) -> unit", "(unit -> any) -> unit"), ("fun", ("fun", U, take("int", R, I)), U))
        self.assertEqual(cast("unit -> int -> unit", "unit -> any -> unit"), ("fun", U, ("fun", take("int", R, I), U)))
        forth, back = ("box", give(I), take("int", L, I)), ("box", take("int", R, I), give(I))
        self.assertEqual(cast("box any", "box int"), forth)
        self.assertEqual(cast("box box any", "box box int"), ("box", ("box", take("int", L, I), give(I)), forth))
        self.assertEqual(cast("box box int", "box box any"), ("box", ("box", give(I), take("int", R, I)), back))
        self.assertEqual(cast("box (int -> unit)", "box (any -> unit)"),
                         ("box", ("fun", give(I), U), ("fun", take("int", R, I), U)))
        self.assertEqual(cast("box (any -> unit)", "box (int -> unit)"),
                         ("box", ("fun", take("int", L, I), U), ("fun", give(I), U)))
        self.assertEqual(cast("box any -> unit", "box int -> unit"), ("fun", ("box", take("int", L, I), give(I)), U))

    def test_the_number_is_that_of_the_cast(self):
        self.assertEqual(cast("any", "int", number=0, side=0), take("int", (0, 0), I))
        self.assertEqual(cast("box int", "any", number=70, side=1), give(("box", take("int", (70, 0), I), give(I))))

    def test_the_other_side_turns_all_labels(self):
        def turned(value):
            if value in ((3, 0), (3, 1)):
                return (3, 1 - value[1])
            return tuple(turned(part) for part in value) if isinstance(value, tuple) else value

        for one, other in itertools.product(SMALL, SMALL):
            if consistent(one, other):
                self.assertEqual(cast(one, other, side=0), turned(cast(one, other)))

    def test_every_check_of_a_cast_is_a_check(self):
        for one, other in itertools.product(SMALL, SMALL):
            if consistent(one, other):
                self.assertIs(is_check(cast(one, other)), True, (one, other))

    def test_deep_types(self):
        for kind in ("fun", "into", "pair"):
            deep = nested(kind, 59)
            for check in (cast(deep, "any"), cast("any", deep), cast(deep, deep)):
                self.assertTrue(is_check(check))
                self.assertEqual(check_height(check), 60)
            self.assertEqual(join(cast(deep, "any"), cast("any", deep, number=4)), cast(deep, deep))
            back = join(cast("any", deep), cast(deep, "any", number=4))
            self.assertEqual((is_check(back), check_height(back), labels(back)[0]), (True, 60, (3, 1)))
            self.assertEqual(join(back, cast("any", deep, number=5)), cast("any", deep))
        self.assertEqual(cast(nested("pair", 2), "any"), give(("pair", give(("pair", give(I), give(B))), give(B))))
        for depth in (58, 59):
            self.assertEqual(labels(cast(nested("into", depth), "any")), [(3, 0)])
            self.assertEqual(labels(cast("any", nested("into", depth))), [(3, 1)])

    def test_box_types_inside_one_another(self):
        deep = nested("box", 12)
        check = cast(deep, "any")
        self.assertEqual(check_height(check), 13)
        self.assertEqual(check_size(check), 2 ** 14 - 2)
        self.assertEqual(labels(check), [(3, 0)])
        mixed = cast(nested("box", 12, pair(ANY, INT)), nested("box", 12, pair(INT, ANY)))
        self.assertEqual(sorted(labels(mixed)), [(3, 0), (3, 1)])
        self.assertEqual(check_size(cast(deep, deep)), 2 ** 13 - 1)
        self.assertEqual(join(check, cast("any", deep, number=4)), cast(deep, deep))

    def test_pairs_of_one_part_twice(self):
        # Their texts would be far too long, but programs make them: let y = (x, x) in let z = (y, y) in ..
        deep = INT
        for _ in range(59):
            deep = pair(deep, deep)
        check = check_of(deep, ANY, number=3, side=1)
        self.assertEqual((check_height(check), check_size(check)), (60, 3 * 2 ** 60 - 2 ** 60 - 2))
        back = check_of(ANY, deep, number=4, side=1)
        self.assertEqual(labels(back), [(4, 1)])
        self.assertEqual(check_size(join(check, back)), 2 ** 60 - 1)


class Ty6SafeSides(unittest.TestCase):
    def check(self, one, other):
        for number, side in itertools.product((0, 5), (0, 1)):
            found = labels(check_of(one, other, number=number, side=1))
            self.assertEqual(safe(one, other, side=side), (number, side) not in found, (one, other))

    def test_small_types(self):
        for one, other in itertools.product(SMALL, SMALL):
            if consistent(one, other):
                self.check(one, other)

    def test_larger_types(self):
        for _, chain in chains(400, 2, 6):
            self.check(*chain)


class Ch4Joining(unittest.TestCase):
    def test_any_first(self):
        for second in (NOTHING, take("int", L, I), take("int", L, fail("int", L, "bool"))):
            self.assertEqual(join(NOTHING, second), second)

    def test_a_fail_first(self):
        first = fail("int", L, "bool")
        for second in (NOTHING, I, give(B), take("unit", R, U), fail("bool", R, "int"), ("fun", NOTHING, NOTHING)):
            self.assertEqual(join(first, second), first)

    def test_a_take_first(self):
        self.assertEqual(join(take("int", L, I), I), take("int", L, I))
        self.assertEqual(join(take("int", L, I), give(I)), take("int", L, give(I)))
        self.assertEqual(join(take("int", L, I), fail("int", R, "bool")), take("int", L, fail("int", R, "bool")))
        self.assertEqual(join(take("int", L, give(I)), NOTHING), take("int", L, give(I)))
        self.assertEqual(join(take("int", L, give(I)), take("int", R, I)), take("int", L, I))
        self.assertEqual(join(take("int", L, give(I)), take("bool", R, B)), take("int", L, fail("int", R, "bool")))
        self.assertEqual(join(take("int", L, fail("int", L, "box")), take("bool", R, B)),
                         take("int", L, fail("int", L, "box")))

    def test_a_give_first(self):
        self.assertEqual(join(give(I), NOTHING), give(I))
        self.assertEqual(join(give(I), take("int", L, I)), I)
        self.assertEqual(join(give(I), take("int", L, give(I))), give(I))
        self.assertEqual(join(give(I), take("int", L, fail("int", R, "bool"))), fail("int", R, "bool"))

    def test_a_give_before_a_take_of_another_ground(self):
        plain = {**SAME, "fun": ("fun", NOTHING, NOTHING), "pair": ("pair", I, B), "box": ("box", NOTHING, give(I))}
        for one, other in itertools.permutations(GROUNDS, 2):
            self.assertEqual(join(give(plain[one]), take(other, L, plain[other])), fail(one, L, other))
            self.assertEqual(join(give(plain[one]), take(other, R, give(plain[other]))), fail(one, R, other))
            self.assertEqual(join(give(plain[one]), take(other, L, fail(other, R, one))), fail(one, L, other))

    def test_plain_before_a_fail(self):
        self.assertEqual(join(I, fail("int", L, "bool")), fail("int", L, "bool"))
        self.assertEqual(join(("fun", I, B), fail("fun", L, "bool")), fail("fun", L, "bool"))

    def test_plain_before_a_give(self):
        self.assertEqual(join(U, give(U)), give(U))
        self.assertEqual(join(("pair", give(I), take("bool", L, B)), give(("pair", NOTHING, give(B)))),
                         give(("pair", give(I), take("bool", L, give(B)))))

    def test_the_same_ground(self):
        for check in SAME.values():
            self.assertEqual(join(check, check), check)

    def test_functions(self):
        first = ("fun", take("int", L, I), give(B))
        second = ("fun", give(I), take("unit", R, U))
        self.assertEqual(join(first, second), ("fun", I, fail("bool", R, "unit")))
        self.assertEqual(join(("fun", take("int", L, I), B), ("fun", give(U), B)), ("fun", fail("unit", L, "int"), B))

    def test_pairs(self):
        first = ("pair", give(I), give(B))
        self.assertEqual(join(first, ("pair", take("int", R, I), take("unit", L, U))),
                         ("pair", I, fail("bool", L, "unit")))
        self.assertEqual(join(first, ("pair", take("unit", R, U), NOTHING)), ("pair", fail("int", R, "unit"), give(B)))

    def test_boxes(self):
        first = ("box", take("int", L, I), give(I))
        second = ("box", give(B), take("bool", R, B))
        self.assertEqual(join(first, second), ("box", fail("bool", L, "int"), fail("int", R, "bool")))
        self.assertEqual(join(("box", take("int", L, I), give(I)), ("box", give(I), take("int", R, I))), ("box", I, I))

    def test_a_type_to_any_and_back(self):
        for one in SMALL:
            there, back = cast(one, "any", number=1), cast("any", one, number=2)
            same = cast(one, one)
            self.assertEqual(join(there, back), same)

    def test_a_type_to_any_and_to_another_ground(self):
        for one, other in itertools.product(SMALL, SMALL):
            if ANY not in (one, other) and ground(one) != ground(other):
                joined = join(cast(one, "any", number=1), cast("any", other, number=2))
                self.assertEqual(joined, fail(ground(one), (2, 1), ground(other)))

    def test_the_check_of_a_type_to_itself(self):
        for one, other in itertools.product(SMALL, SMALL):
            if consistent(one, other):
                check = cast(one, other)
                self.assertEqual(join(cast(one, one, number=8), check), check)
                self.assertEqual(join(check, cast(other, other, number=9)), check)
        for _, chain in chains(300, 4, 5):
            whole = joined_all(checks_of(chain))
            self.assertEqual(join(cast(chain[0], chain[0], number=8), whole), whole)
            self.assertEqual(join(whole, cast(chain[-1], chain[-1], number=9)), whole)

    def test_either_order_of_three(self):
        for one, two in itertools.product(SMALL, SMALL):
            if consistent(one, two):
                for three in (ANY, two, *[other for other in SMALL if consistent(two, other)][::7]):
                    first, second = cast(one, two, number=1), cast(two, three, number=2)
                    for last in (ANY, *KINDS.values(), one, two, three):
                        if consistent(three, last):
                            third = cast(three, last, number=3)
                            self.assertEqual(join(join(first, second), third), join(first, join(second, third)))

    def test_either_order_along_chains(self):
        for chance, chain in chains(600, 7, 5):
            checks = checks_of(chain)
            whole = joined_all(checks)
            self.assertTrue(is_check(whole), whole)
            while len(checks) > 1:
                at = chance.randrange(len(checks) - 1)
                checks[at:at + 2] = [join(checks[at], checks[at + 1])]
            self.assertEqual(checks[0], whole)

    def test_a_joined_check_knows_its_types(self):
        # Where it cannot fail at once, a joined check goes between the same grounds as the cast of the outer types.
        for _, chain in chains(300, 5, 4):
            whole = joined_all(checks_of(chain))
            if chain[0] == ANY:
                self.assertIn(whole[0], ("any", "take"))
            else:
                self.assertNotIn(whole[0], ("any", "take"))


def joined_all(checks):
    """The checks of a chain, joined from the first to the last one."""
    whole = checks[0]
    for check in checks[1:]:
        whole = join(whole, check)
    return whole


SIZES = {
    # check: (size, height)
    NOTHING: (1, 1), I: (1, 1), U: (1, 1), fail("int", L, "bool"): (1, 1), give(I): (2, 1), take("int", L, I): (2, 1),
    take("int", L, give(I)): (3, 1), take("int", L, fail("int", R, "box")): (2, 1), ("fun", I, B): (3, 2),
    ("fun", I, I): (3, 2), ("pair", NOTHING, give(I)): (4, 2), ("box", take("int", L, give(I)), NOTHING): (5, 2),
    give(("fun", give(I), give(I))): (6, 2), take("box", L, give(("box", NOTHING, NOTHING))): (5, 2),
    ("fun", ("fun", I, I), I): (5, 3), ("fun", I, ("pair", I, B)): (5, 3),
    ("pair", ("pair", I, I), ("pair", I, I)): (7, 3), ("pair", ("pair", I, B), ("box", I, I)): (7, 3),
    ("pair", give(("pair", I, I)), give(("pair", I, I))): (9, 3),
    ("box", take("box", L, give(("box", I, ("pair", I, U)))), I): (9, 4),
}


class Ch5Size(unittest.TestCase):
    def test_sizes_and_heights(self):
        for check, expected in SIZES.items():
            self.assertEqual((check_size(check), check_height(check)), expected, check)

    def test_the_check_of_a_cast_is_not_higher_than_its_types(self):
        for one, other in itertools.product(SMALL, SMALL):
            if consistent(one, other):
                self.check_bounds(cast(one, other), max(height(one), height(other)))

    def test_a_joined_check_is_not_higher_than_both(self):
        for _, chain in chains(400, 6, 6):
            checks = checks_of(chain)
            whole = checks[0]
            for at, check in enumerate(checks[1:]):
                most = max(check_height(whole), check_height(check))
                whole = join(whole, check)
                self.check_bounds(whole, most)
            self.check_bounds(whole, max(height(one) for one in chain))

    def check_bounds(self, check, most):
        found = check_height(check)
        self.assertLessEqual(found, most)
        self.assertLessEqual(check_size(check), 3 * 2 ** found - 3)

    def test_the_greatest_size(self):
        check = take("int", L, give(I))
        for most in range(1, 6):
            self.assertEqual((check_height(check), check_size(check)), (most, 3 * 2 ** most - 3))
            check = take("fun", L, give(("fun", check, check)))


class Ch2Labels(unittest.TestCase):
    def test_labels(self):
        one, two, three = (1, 1), (2, 0), (0, 1)
        cases = {
            NOTHING: [], I: [], give(I): [], fail("int", two, "bool"): [two], take("int", one, I): [one],
            take("int", one, fail("int", two, "box")): [one, two], take("int", one, fail("int", one, "box")): [one],
            ("fun", take("int", two, I), take("int", one, I)): [two, one],
            ("fun", take("int", two, I), take("int", two, I)): [two],
            ("pair", fail("int", three, "bool"), ("box", take("int", one, I), take("bool", two, B))): [three, one, two],
            ("pair", ("box", take("int", one, I), take("bool", two, B)), take("int", one, I)): [one, two],
            take("pair", three, give(("pair", take("int", two, I), take("int", three, I)))): [three, two],
            ("box", take("int", (1, 0), I), take("int", (1, 1), I)): [(1, 0), (1, 1)],
        }
        for check, expected in cases.items():
            self.assertEqual(labels(check), expected, check)

    def test_the_order_of_the_text(self):
        for _, chain in chains(300, 5, 5):
            whole = joined_all(checks_of(chain))
            found = labels(whole)
            self.assertEqual(len(set(found)), len(found))
            text = str(whole)
            places = [text.index(str(label)) for label in found]
            self.assertEqual(places, sorted(places))
            for label in itertools.product(range(5), (0, 1)):
                self.assertEqual(label in found, str(label) in text)


class Ch6FirstBlame(unittest.TestCase):
    def test_each_form(self):
        inner = ("pair", fail("int", L, "bool"), take("int", L, I))
        for name in GROUNDS:
            for check in (NOTHING, I, ("fun", take("int", L, I), NOTHING), inner, give(inner), give(B)):
                self.assertIsNone(first_blame(check, name))
            self.assertEqual(first_blame(fail("int", L, "bool"), name), L)
            for wanted in GROUNDS:
                plain = SAME.get(wanted, (wanted, NOTHING, NOTHING))
                other = "int" if wanted != "int" else "box"
                expected = None if name == wanted else R
                self.assertEqual(first_blame(take(wanted, R, plain), name), expected)
                self.assertEqual(first_blame(take(wanted, R, give(plain)), name), expected)
                self.assertEqual(first_blame(take(wanted, R, fail(wanted, L, other)), name), expected or L)

    def test_takes_inside_takes(self):
        # A take that stands in the part of a take is not looked at.
        check = take("pair", L, ("pair", take("int", R, I), take("int", R, I)))
        self.assertIsNone(first_blame(check, "pair"))
        self.assertEqual(first_blame(check, "int"), L)

    def test_a_type_that_is_no_ground_of_values(self):
        for one in SMALL:
            if one != ANY:
                for name in GROUNDS:
                    expected = None if name == ground(one) else L
                    self.assertEqual(first_blame(cast("any", one), name), expected)

    def test_joined_checks(self):
        for _, chain in chains(600, 5, 4):
            checks = checks_of(chain)
            for at in range(1, len(checks)):
                first, second = joined_all(checks[:at]), joined_all(checks[at:])
                names = GROUNDS if chain[0] == ANY else (ground(chain[0]),)
                for name in names:
                    expected = first_blame(first, name)
                    if expected is None:
                        expected = first_blame(second, name)
                    self.assertEqual(first_blame(join(first, second), name), expected)


def valid_checks(rounds):
    """Checks by the grammar of point CH2: all small ones, and some that are larger with each round."""
    found = [NOTHING]
    plain = list(SAME.values())
    for _ in range(rounds):
        for name, label in itertools.product(GROUNDS, ((0, 0), (7, 1))):
            others = [other for other in GROUNDS if other != name]
            fails = [fail(name, label, other) for other in others]
            inner = [one for one in plain if ground_of_plain(one) == name]
            found += fails + [take(name, label, one) for one in inner + [give(one) for one in inner] + fails]
        found += plain + [give(one) for one in plain]
        found = list({repr(check): check for check in found}.values())
        some = found[::max(1, len(found) // 12)]
        plain += [(kind, one, other) for kind in ("fun", "pair", "box") for one in some for other in some[::-2]]
    return found


def ground_of_plain(check):
    return check[1] if check[0] == "same" else check[0]


JUNK = (None, True, False, 0, 1, -1, 2, "", "int", "any", "give", "same", "take", (), [], {}, ("any", "any"), ["any"],
        (None,), (True,), (0,), ("int",), ({},), ([],), ((),), (NOTHING,), {"any": ("any",)}, ("same",), ("give",),
        ("fail",), ("take",), ("fun",), ("pair",), ("box",), ("same", "any"), ("same", "fun"), ("same", "pair"),
        ("same", "box"), ("same", None), ("same", ["int"]), ("same", {}), ("same", ("int",)), ("same", True),
        ("any", ()), ("any", None), ("ANY",), ("num", 1), ((1, 1),), (1, 1))


class Ch7AnyValue(unittest.TestCase):
    def expect(self, value, expected):
        before = copy.deepcopy(value)
        self.assertIs(is_check(value), expected, value)
        self.assertEqual(repr(value), repr(before))

    def test_checks(self):
        found = valid_checks(3)
        self.assertGreater(len(found), 1000)
        for check in found:
            self.expect(check, True)

    def test_joined_checks(self):
        for _, chain in chains(200, 5, 5):
            self.expect(joined_all(checks_of(chain)), True)

    def test_other_values(self):
        for value in JUNK:
            self.expect(value, False)

    def test_other_values_in_each_place_of_a_check(self):
        for check in valid_checks(1) + valid_checks(2)[::6]:
            for at, junk in itertools.product(range(len(check)), JUNK):
                # A label, a ground or a head may be junk for a check as such, and stand in its place all the same.
                if repr(junk) != repr(check[at]) and not self.may_stand(check, at, junk):
                    self.expect(check[:at] + (junk,) + check[at + 1:], False)

    def may_stand(self, check, at, junk):
        if check[0] in ("take", "fail") and at == 2:
            return repr(junk) == "(1, 1)"
        if check[0] == "fail" and at in (1, 3):
            return junk == "int" and "int" not in (check[1], check[3])
        return check[0] == "same" and at == 1 and junk == "int"

    def test_parts_left_out_and_doubled(self):
        for check in valid_checks(2):
            for at in range(len(check)):
                self.expect(check[:at] + check[at + 1:], False)
                self.expect(check[:at + 1] + check[at:], False)
            self.expect(check + (NOTHING,), False)
            self.expect(check + (None,), False)

    def test_lists_in_the_place_of_tuples(self):
        for check in valid_checks(2):
            self.expect(list(check), False)
            for at, part in enumerate(check):
                if isinstance(part, tuple):
                    self.expect(check[:at] + (list(part),) + check[at + 1:], False)

    def test_heads(self):
        bare = {1: ("any",), 2: ("same", "give"), 3: ("fun", "pair", "box"), 4: ("fail", "take")}
        for check in valid_checks(2):
            heads = ("any", "same", "give", "fun", "pair", "box", "fail", "take", "let", "", "Any", None, 1, ("any",))
            for head in heads:
                if head not in bare[len(check)]:
                    self.expect((head,) + check[1:], False)
        self.expect(("give", "int"), False)
        self.expect(("same", I), False)
        self.expect(("fail", "int", L, I), False)
        self.expect(("take", "int", L, "bool"), False)

    def test_labels(self):
        cases = {
            (0, 0): True, (0, 1): True, (9, 0): True, (10 ** 30, 1): True, (-1, 0): False, (-1, 1): False,
            (0, 2): False, (0, -1): False, (0,): False, (0, 1, 1): False, (): False, ("0", 1): False, (0, "1"): False,
            (None, 1): False, (0, None): False, 0: False, "01": False, None: False, ((0, 1),): False, ((0,), 1): False,
        }
        for label, expected in cases.items():
            self.expect(take("int", label, I), expected)
            self.expect(fail("int", label, "box"), expected)
            self.expect(("fun", NOTHING, take("pair", label, fail("pair", L, "box"))), expected)
        wrong = ((True, 1), (False, 1), (1, True), (1, False), (0, False), [0, 1], {0: 1}, ([0], 1), (0, [1]), True)
        for label in wrong:
            self.expect(take("int", label, I), False)
            self.expect(fail("int", label, "box"), False)

    def test_grounds(self):
        for one, other in itertools.product(GROUNDS + ("any", "", "num"), repeat=2):
            known = one in GROUNDS and other in GROUNDS
            self.expect(fail(one, L, other), known and one != other)
            self.expect(take(one, L, fail(other, R, "int")), known and one == other and other != "int")
            plain = SAME.get(other, (other, NOTHING, NOTHING))
            self.expect(take(one, L, plain), known and one == other)
            self.expect(take(one, L, give(plain)), known and one == other)
        for ground_name in (None, True, 1, ("int",), ["int"], {}, "same"):
            self.expect(fail(ground_name, L, "int"), False)
            self.expect(fail("int", L, ground_name), False)
            self.expect(take(ground_name, L, I), False)

    def test_what_stands_in_a_give(self):
        plain = ("fun", NOTHING, give(I))
        for inner in (I, plain, ("box", fail("int", L, "box"), take("int", L, I))):
            self.expect(give(inner), True)
        for inner in (NOTHING, give(I), give(plain), take("int", L, I), take("int", L, give(I)), fail("int", L, "box")):
            self.expect(give(inner), False)
            self.expect(("pair", give(inner), I), False)

    def test_what_stands_in_a_take(self):
        for inner in (I, give(I), fail("int", L, "box")):
            self.expect(take("int", L, inner), True)
        for inner in (NOTHING, take("int", L, I), take("int", L, give(I)), give(NOTHING), give(give(I))):
            self.expect(take("int", L, inner), False)
        self.expect(take("fun", L, take("fun", L, ("fun", I, I))), False)

    def test_what_stands_in_functions_pairs_and_boxes(self):
        for kind in ("fun", "pair", "box"):
            for one in (NOTHING, I, give(U), take("int", L, give(I)), fail("int", L, "box"), ("box", I, I)):
                self.expect((kind, one, NOTHING), True)
                self.expect((kind, U, one), True)
                self.expect((kind, one), False)
                self.expect((kind, one, one, one), False)
                self.expect((kind, one, [one]), False)
                self.expect((kind, "int", one), False)

    def test_height(self):
        for kind in ("fun", "pair", "box"):
            for wrap in (lambda one: one, give, lambda one: take(kind, L, one), lambda one: take(kind, L, give(one))):
                for place in (0, 1):
                    check = NOTHING
                    for _ in range(59):
                        check = wrap((kind, check, I) if place else (kind, U, check))
                    self.assertEqual(check_height(check), 60)
                    self.expect(check, True)
                    self.expect(wrap((kind, check, I) if place else (kind, U, check)), False)
        low = ("fun", NOTHING, NOTHING)
        for _ in range(57):
            low = ("fun", low, I)
        self.expect(("fun", low, take("fun", L, low)), True)
        self.expect(("fun", ("fun", ("fun", low, I), I), I), False)

    def test_values_that_are_nested_far_too_deep(self):
        for make in (lambda one: ("fun", one, one), lambda one: ("give", one), lambda one: (one, one),
                     lambda one: ("take", "int", L, one), lambda one: ("same", one), lambda one: {"any": one},
                     lambda one: [one], lambda one: ("take", one, L, I), lambda one: fail("int", (one, 1), "box")):
            value = ("any",)
            for _ in range(3000):
                value = make(value)
            self.assertIs(is_check(value), False)


if __name__ == "__main__":
    unittest.main()
