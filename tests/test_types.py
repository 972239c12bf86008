"""How types are to each other: points TY1 to TY6, and what point BL2 says of sides."""

import itertools
import random
import unittest

from halfnoted.reader import read_type
from halfnoted.types import consistent, ground, ground_type, height, less_exact, meeting, safe
from trees import ANY, BOOL, INT, UNIT, all_types, box, fun, less_exact_types, pair, random_type, weakened

SMALL = all_types(2)
KINDS = {"int": INT, "bool": BOOL, "unit": UNIT, "fun": fun(INT, BOOL), "pair": pair(INT, BOOL), "box": box(INT)}


def random_pairs(many, most):
    """Pairs of larger types, most of which have much in common."""
    for seed in range(many):
        chance = random.Random(seed)
        first = random_type(chance, most)
        second = first if seed % 4 else random_type(chance, most)
        yield weakened(chance, first, 0.15), weakened(chance, second, 0.15)


class Ty1Consistency(unittest.TestCase):
    def check(self, one, other, expected):
        self.assertIs(consistent(one, other), expected, (one, other))
        self.assertIs(consistent(other, one), expected, (other, one))

    def test_kinds_against_kinds(self):
        for one, other in itertools.product(KINDS, KINDS):
            self.check(KINDS[one], KINDS[other], one == other)

    def test_any_against_every_type(self):
        for one in SMALL:
            self.check(one, ANY, True)

    def test_equal_types(self):
        for one in SMALL:
            self.check(one, (one[0],) + one[1:], True)

    def test_the_same_kind_with_unlike_parts(self):
        cases = {
            ("int -> bool", "int -> int"): False, ("int -> bool", "bool -> bool"): False,
            ("int -> any", "any -> bool"): True, ("int -> any", "bool -> any"): False,
            ("any -> int", "any -> bool"): False, ("any -> any", "int -> bool"): True,
            ("(int, bool)", "(int, int)"): False, ("(int, bool)", "(bool, bool)"): False,
            ("(int, any)", "(any, bool)"): True, ("(any, int)", "(any, bool)"): False,
            ("box int", "box bool"): False, ("box any", "box bool"): True, ("box box int", "box int"): False,
            ("box box int", "box box any"): True, ("box box int", "box box bool"): False,
            ("int -> bool", "(int, bool)"): False, ("(any, any)", "any -> any"): False,
            ("box any", "(any, any)"): False, ("(int -> any, box any)", "(any -> bool, box int)"): True,
            ("(int -> any, box any)", "(any -> bool, int)"): False,
            ("int -> bool -> unit", "int -> any"): True, ("int -> bool -> unit", "int -> bool -> int"): False,
            ("(int -> bool) -> unit", "(any -> int) -> unit"): False,
        }
        for (one, other), expected in cases.items():
            self.check(read_type(one), read_type(other), expected)

    def test_it_does_not_go_on_from_one_pair_to_the_next(self):
        self.check(INT, ANY, True)
        self.check(ANY, BOOL, True)
        self.check(INT, BOOL, False)

    def test_all_small_types(self):
        less = {one: set(less_exact_types(one)) for one in SMALL}
        more = {one: {other for other in SMALL if one in less[other]} for one in SMALL}
        for one, other in itertools.product(SMALL, SMALL):
            self.check(one, other, bool(more[one] & more[other]))


class Ty2Exactness(unittest.TestCase):
    def test_each_type_and_itself(self):
        for one in SMALL:
            self.assertIs(less_exact(one, (one[0],) + one[1:]), True)

    def test_any(self):
        for one in SMALL:
            self.assertIs(less_exact(ANY, one), True)
            self.assertIs(less_exact(one, ANY), one == ANY)

    def test_cases(self):
        cases = {
            ("int -> any", "int -> bool"): True, ("any -> bool", "int -> bool"): True,
            ("int -> bool", "int -> any"): False, ("any -> bool", "int -> any"): False,
            ("int -> any", "bool -> any"): False, ("(any, int)", "(bool, int)"): True,
            ("(any, int)", "(bool, bool)"): False, ("(bool, any)", "(bool, int)"): True,
            ("(bool, int)", "(bool, any)"): False, ("box any", "box box int"): True,
            ("box box any", "box box int"): True, ("box box any", "box int"): False,
            ("box int", "box any"): False, ("(any, any)", "any -> any"): False, ("int", "bool"): False,
            ("(any -> any, box any)", "(int -> bool -> int, box box int)"): True,
            ("(any -> int) -> any", "(int -> any) -> any"): False,
        }
        for (one, other), expected in cases.items():
            self.assertIs(less_exact(read_type(one), read_type(other)), expected, (one, other))

    def test_all_small_types(self):
        for other in SMALL:
            less = less_exact_types(other)
            for one in SMALL:
                self.assertIs(less_exact(one, other), one in less, (one, other))

    def test_larger_types(self):
        for seed in range(300):
            chance = random.Random(seed)
            exact = random_type(chance, 6)
            less = weakened(chance, exact)
            self.assertIs(less_exact(less, exact), True)
            self.assertIs(less_exact(exact, less), exact == less)


class Ty3Meeting(unittest.TestCase):
    def check(self, one, other, expected):
        self.assertEqual(meeting(one, other), expected, (one, other))
        self.assertEqual(meeting(other, one), expected, (other, one))

    def test_the_other_type_if_one_is_any(self):
        for one in SMALL:
            self.check(one, ANY, one)
            self.check(one, one, one)

    def test_parts(self):
        cases = {
            ("int -> any", "any -> bool"): "int -> bool", ("any -> any", "int -> any"): "int -> any",
            ("(int, any)", "(any, bool)"): "(int, bool)", ("(any, any)", "(any, any)"): "(any, any)",
            ("box any", "box int"): "box int", ("box box any", "box any"): "box box any",
            ("(int -> any, box any)", "(any -> bool -> any, any)"): "(int -> bool -> any, box any)",
            ("any -> any -> int", "(any, int) -> any"): "(any, int) -> any -> int",
        }
        for (one, other), expected in cases.items():
            self.check(read_type(one), read_type(other), read_type(expected))

    def test_none_if_they_are_not_consistent(self):
        cases = (("int", "bool"), ("int -> any", "bool -> any"), ("any -> int", "any -> bool"), ("box int", "box unit"),
                 ("(any, int)", "(any, bool)"), ("(int, any)", "(bool, any)"), ("box any", "any -> any"),
                 ("(box box int, any)", "(box box bool, any)"), ("int -> int -> int", "int -> int -> unit"))
        for one, other in cases:
            self.check(read_type(one), read_type(other), None)

    def test_all_small_types(self):
        """The meeting type is above both, and below every other type that is above both."""
        less = {one: set(less_exact_types(one)) for one in SMALL}
        for one, other in itertools.product(SMALL, SMALL):
            above = [upper for upper in SMALL if one in less[upper] and other in less[upper]]
            met = meeting(one, other)
            self.assertEqual(met is None, not above, (one, other))
            self.assertIs(consistent(one, other), met is not None)
            if above:
                self.assertIn(met, above)
                self.assertTrue(all(met in less[upper] for upper in above), (one, other))

    def test_larger_types(self):
        consistent_ones = 0
        for one, other in random_pairs(400, 5):
            met = meeting(one, other)
            self.assertEqual(met, meeting(other, one))
            self.assertIs(consistent(one, other), met is not None)
            if met is not None:
                consistent_ones += 1
                self.assertTrue(less_exact(one, met) and less_exact(other, met))
        self.assertGreater(consistent_ones, 200)

    def test_of_two_less_exact_types(self):
        for seed in range(300):
            chance = random.Random(seed)
            exact = random_type(chance, 6)
            met = meeting(weakened(chance, exact), weakened(chance, exact))
            self.assertTrue(less_exact(met, exact))


class Ty4Grounds(unittest.TestCase):
    def test_the_ground_of_each_kind(self):
        for name, one in KINDS.items():
            self.assertEqual(ground(one), name)

    def test_the_ground_of_all_small_types(self):
        for one in SMALL:
            if one != ANY:
                self.assertEqual(ground(one), one[0])

    def test_the_ground_type_of_each_ground(self):
        self.assertEqual({name: ground_type(name) for name in KINDS}, {
            "int": ("int",), "bool": ("bool",), "unit": ("unit",), "fun": ("fun", ("any",), ("any",)),
            "pair": ("pair", ("any",), ("any",)), "box": ("box", ("any",))})

    def test_the_ground_of_a_ground_type(self):
        for name in KINDS:
            self.assertEqual(ground(ground_type(name)), name)


class Ty5Height(unittest.TestCase):
    def test_types_without_parts(self):
        for one in (INT, BOOL, UNIT, ANY):
            self.assertEqual(height(one), 1)

    def test_nested_types(self):
        cases = {
            "int -> int": 2, "(any, bool)": 2, "box any": 2, "box box any": 3, "int -> int -> int": 3,
            "(int -> int) -> int": 3, "((int, int), int)": 3, "(int, (int, int))": 3, "(box int, box int)": 3,
            "box (int -> box int)": 4, "int -> (int, box box int)": 5, "(box box box int, int)": 5,
            "int -> int -> int -> int -> int": 5, "((int, int), (int, int))": 3,
        }
        for text, expected in cases.items():
            self.assertEqual(height(read_type(text)), expected, text)

    def test_chains(self):
        for many in (1, 2, 11, 12, 59):
            self.assertEqual(height(read_type("int -> " * many + "int")), many + 1)
            self.assertEqual(height(read_type("(" * many + "int" + ", int)" * many)), many + 1)
        self.assertEqual(height(read_type("box " * 12 + "int")), 13)


def safe_by_lines(source, target, side):
    """Point TY6, line by line."""
    if not consistent(source, target):
        return False
    if source == target and len(source) == 1:
        return True
    if target == ANY:
        return side == 1 or safe_by_lines(source, ground_type(ground(source)), side)
    if source == ANY:
        return side == 0
    if source[0] == "fun":
        return safe_by_lines(target[1], source[1], 1 - side) and safe_by_lines(source[2], target[2], side)
    if source[0] == "pair":
        return safe_by_lines(source[1], target[1], side) and safe_by_lines(source[2], target[2], side)
    return safe_by_lines(source[1], target[1], side) and safe_by_lines(target[1], source[1], 1 - side)


class Ty6SafeSides(unittest.TestCase):
    def check(self, cases):
        """The cases give what is safe: of side 1 and of side 0."""
        for (source, target), (one, zero) in cases.items():
            self.assertIs(safe(read_type(source), read_type(target), side=1), one, (source, target, 1))
            self.assertIs(safe(read_type(source), read_type(target), side=0), zero, (source, target, 0))

    def test_the_same_type_without_parts(self):
        self.check({(word, word): (True, True) for word in ("int", "bool", "unit", "any")})

    def test_to_any(self):
        self.check({
            ("int", "any"): (True, True), ("bool", "any"): (True, True), ("unit", "any"): (True, True),
            ("int -> int", "any"): (True, False), ("any -> int", "any"): (True, True),
            ("int -> any", "any"): (True, False), ("any -> any", "any"): (True, True),
            ("(int, bool)", "any"): (True, True), ("(int -> int, bool)", "any"): (True, False),
            ("(any, int -> int)", "any"): (True, False), ("(any, any)", "any"): (True, True),
            ("box int", "any"): (True, False), ("box any", "any"): (True, True),
            ("any -> any -> int", "any"): (True, True), ("any -> int -> any", "any"): (True, False),
            ("(int -> any) -> any", "any"): (True, False), ("box box any", "any"): (True, False),
        })

    def test_from_any(self):
        self.check({("any", target): (False, True) for target in (
            "int", "bool", "unit", "int -> int", "any -> any", "(int, int)", "(any, any)", "box int", "box any")})

    def test_functions(self):
        self.check({
            ("int -> int", "int -> int"): (True, True), ("any -> int", "int -> int"): (True, True),
            ("int -> int", "any -> int"): (True, False), ("int -> any", "int -> int"): (False, True),
            ("int -> int", "int -> any"): (True, True), ("any -> int", "int -> any"): (True, True),
            ("int -> any", "any -> int"): (False, False), ("any -> any", "int -> int"): (False, True),
            ("int -> int", "any -> any"): (True, False),
            ("(int -> int) -> int", "any -> int"): (True, False), ("any -> int", "(int -> int) -> int"): (False, True),
            ("(any -> int) -> int", "(int -> int) -> int"): (False, True),
            ("(int -> int) -> int", "(any -> int) -> int"): (True, True),
            ("(int -> any) -> int", "(int -> int) -> int"): (True, True),
            ("(int -> int) -> int", "(int -> any) -> int"): (True, False),
        })

    def test_pairs(self):
        self.check({
            ("(int, any)", "(int, int)"): (False, True), ("(any, int)", "(int, int)"): (False, True),
            ("(int, int)", "(int, any)"): (True, True), ("(int, int)", "(any, int)"): (True, True),
            ("(int, any)", "(any, int)"): (False, True), ("(int -> int, any)", "(any, int)"): (False, False),
            ("(int -> int, int)", "(any -> int, int)"): (True, False),
            ("(int, int -> int)", "(int, any -> int)"): (True, False),
        })

    def test_boxes(self):
        self.check({
            ("box int", "box int"): (True, True), ("box any", "box any"): (True, True),
            ("box int", "box any"): (True, False), ("box any", "box int"): (False, True),
            ("box (int, any)", "box (any, int)"): (False, False),
            ("box (any -> int)", "box (int -> int)"): (False, True),
            ("box (int -> int)", "box (any -> int)"): (True, False),
            ("box box int", "box box any"): (True, False), ("box box any", "box box int"): (False, True),
        })

    def test_types_that_are_not_consistent(self):
        self.check({(source, target): (False, False) for source, target in (
            ("int", "bool"), ("int -> int", "int"), ("(int, int)", "int -> int"), ("box int", "int"),
            ("int -> int", "int -> bool"), ("int -> int", "bool -> int"), ("(int, int)", "(int, bool)"),
            ("(bool, any)", "(int, any)"), ("box int", "box bool"), ("any -> int", "any -> bool"),
            ("(any -> int) -> any", "(any -> bool) -> any"), ("box (int -> any)", "box (bool -> any)"),
            ("(any, any)", "any -> any"), ("box any", "(any, any)"))})

    def test_all_small_types(self):
        for source, target in itertools.product(SMALL, SMALL):
            for side in (0, 1):
                self.assertIs(safe(source, target, side=side), safe_by_lines(source, target, side), (source, target))

    def test_larger_types(self):
        for source, target in random_pairs(600, 5):
            for side in (0, 1):
                self.assertIs(safe(source, target, side=side), safe_by_lines(source, target, side), (source, target))

    def test_twelve_boxes_inside_one_another(self):
        exact, less = read_type("box " * 12 + "int"), read_type("box " * 12 + "any")
        self.assertEqual([safe(exact, less, side=side) for side in (0, 1)], [False, True])
        self.assertEqual([safe(less, exact, side=side) for side in (0, 1)], [True, False])
        self.assertEqual([safe(exact, exact, side=side) for side in (0, 1)], [True, True])

    def test_the_side_is_a_keyword(self):
        with self.assertRaises(TypeError):
            safe(INT, INT, 1)


class Bl2SafeSides(unittest.TestCase):
    def check(self, less, exact):
        """The cast to the more exact type may blame side 1 alone, and the cast from it side 0 alone."""
        self.assertIs(safe(less, exact, side=0), True, (less, exact))
        self.assertIs(safe(exact, less, side=1), True, (exact, less))

    def test_types_of_which_one_is_at_most_as_exact(self):
        for exact in SMALL:
            for less in less_exact_types(exact):
                self.check(less, exact)

    def test_larger_types(self):
        for seed in range(600):
            chance = random.Random(seed)
            exact = random_type(chance, 6)
            self.check(weakened(chance, exact), exact)

    def test_cases(self):
        for less, exact in (("any", "int -> int"), ("any -> any", "int -> bool"), ("(any, int)", "(box int, int)"),
                            ("box any", "box int"), ("box any", "box box int"), ("any", "box box (int -> int)"),
                            ("(any -> int) -> any", "(int -> int) -> bool")):
            self.check(read_type(less), read_type(exact))

    def test_the_two_sides_together_tell_exactness(self):
        """For no other two types are both of these sides safe."""
        for less, exact in itertools.product(SMALL, SMALL):
            both = safe(less, exact, side=0) and safe(exact, less, side=1)
            self.assertIs(both, less_exact(less, exact), (less, exact))


class Results(unittest.TestCase):
    def test_the_results_are_flags_types_and_integers(self):
        for one, other in itertools.product(list(KINDS.values()) + [ANY], repeat=2):
            for result in (consistent(one, other), less_exact(one, other), safe(one, other, side=0),
                           safe(one, other, side=1)):
                self.assertIs(type(result), bool)
            self.assertIn(type(meeting(one, other)), (tuple, type(None)))
            self.assertIs(type(height(one)), int)


class Examples(unittest.TestCase):
    def test_the_examples_of_the_interface(self):
        self.assertEqual(meeting(("fun", ("any",), ("int",)), ("fun", ("bool",), ("any",))),
                         ('fun', ('bool',), ('int',)))
        self.assertIs(safe(("fun", ("any",), ("int",)), ("fun", ("int",), ("any",)), side=1), True)
        self.assertIs(safe(("fun", ("int",), ("int",)), ("any",), side=0), False)


if __name__ == "__main__":
    unittest.main()
