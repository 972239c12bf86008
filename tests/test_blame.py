"""Blame: points BL1 and BL2."""

import itertools
import random
import unittest

from halfnoted.blame import explains, may_blame
from halfnoted.check import casts, elaborate
from halfnoted.code import compile_core
from halfnoted.machine import run_machine
from halfnoted.plain import run_plain
from halfnoted.reader import read
from halfnoted.runner import run_code
from halfnoted.types import consistent, less_exact, safe
from samples import FORMS, LOOPS, NAMES, NUMBERS, ORDER, WRAPPED, through_any
from trees import ANY, BOOL, INT, UNIT, all_types, box, fun, pair, random_type, weakened
from typed import random_program, random_samples

ALL = FORMS + NUMBERS + ORDER + NAMES + LOOPS + WRAPPED + through_any()
SMALL = all_types(2)
OTHER_ENDS = [("value", ("int", 1)), ("value", ("bool", True)), ("value", ("fun",)), ("calls",)]


def core_of(text):
    return elaborate(read(text))[0]


def cast(source, target, number=0, core=("num", 1)):
    return ("cast", number, source, target, core)


class Bl1Labels(unittest.TestCase):
    def test_labels(self):
        cases = {
            "1": [], "(1 : int)": [], "(1 : any)": [], "((1 : any) : int)": [(1, 1)], "((1 : any) : bool)": [(1, 1)],
            "((fun x : int => x) : any) true": [(1, 1), (2, 0)], "((fun x => x) : int -> any)": [],
            "((fun x => x) : int -> int)": [(1, 1)], "((fun x : int => x) : any -> any)": [(1, 0)],
            "(((fun x => (x : int)) : int -> any) : any)": [(1, 0), (4, 1)],
            "(box 1 : box any)": [(1, 0)], "(box (1 : any) : box int)": [(1, 1)], "(box 1 : any)": [(1, 0)],
            "((1, 2) : any)": [], "(((1, 2) : any) : (int, any))": [(1, 1)],
            "((1 : any) + (2 : any), (true : any))": [(2, 1), (4, 1)],
            "(fun x => x + x) 1": [(3, 1), (4, 1)], "fun x => x x": [(2, 1)],
            "((fun x : int => (x : any)) : any -> int)": [(1, 1), (1, 0)],
        }
        for text, expected in cases.items():
            found = may_blame(core_of(text))
            self.assertEqual(found, expected, text)
            self.assertIs(type(found), list)
            for label in found:
                self.assertEqual((type(label), type(label[0]), type(label[1])), (tuple, int, int))

    def test_casts_of_every_kind(self):
        for one, other in itertools.product(SMALL, SMALL):
            expected = [(7, side) for side in (1, 0) if not safe(one, other, side=side)]
            self.assertEqual(may_blame(cast(one, other, 7)), expected, (one, other))

    def test_the_order_of_the_casts(self):
        both = (fun(INT, ANY), fun(ANY, INT))
        name = ("name", "f")
        chain = cast(*both, 9, cast(*both[::-1], 5, cast(*both, 4, name)))
        core = ("let", "f", ("fun", "x", INT, cast(INT, ANY, 1)), ("pair", chain, ("box", cast(*both, 6, name))))
        self.assertEqual(may_blame(core), [(9, 1), (9, 0), (4, 1), (4, 0), (6, 1), (6, 0)])
        core = ("if", cast(ANY, BOOL, 3), cast(ANY, INT, 2), cast(box(INT), box(ANY), 1))
        self.assertEqual(may_blame(core), [(3, 1), (2, 1), (1, 0)])

    def test_no_label_twice(self):
        core = ("pair", cast(ANY, INT, 5), ("pair", cast(box(INT), box(ANY), 5), cast(ANY, BOOL, 5)))
        self.assertEqual(may_blame(core), [(5, 1), (5, 0)])

    def test_labels_of_random_programs(self):
        for expression in random_samples(100):
            core, _ = elaborate(expression)
            sides = [(n, side, one, other) for n, one, other in casts(core) for side in (1, 0)]
            expected = [(n, side) for n, side, one, other in sides if not safe(one, other, side=side)]
            self.assertEqual(may_blame(core), expected)

    def test_explains(self):
        core = core_of("((fun x : int => x) : any) true")
        for end in OTHER_ENDS:
            self.assertIs(explains(core, end), True)
            self.assertIs(explains(("num", 1), end), True)
        for number, side in itertools.product(range(6), (0, 1)):
            self.assertIs(explains(core, ("blame", number, side)), (number, side) in ((1, 1), (2, 0)))
            self.assertIs(explains(("num", 1), ("blame", number, side)), False)

    def test_pairs_of_one_part_twice(self):
        core = core_of("let x = (1, 1) in " + "let x = (x, x) in " * 48 + "fst (x : any)")
        self.assertEqual(len(casts(core)), 2)
        self.assertEqual([side for _, side in may_blame(core)], [1])


class Bl2Facts(unittest.TestCase):
    def check(self, core, calls):
        for prints_and_end in (run_plain(core, calls), run_machine(core, calls), run_code(compile_core(core), calls)):
            end = prints_and_end[1]
            self.assertIs(explains(core, end), True, core)
            if end[0] == "blame":
                self.assertIn(end[1:], may_blame(core))

    def test_runs_that_end_with_blame(self):
        for text, calls, _, _ in ALL:
            core = core_of(text)
            for allowed in range(calls + 1):
                self.check(core, allowed)

    def test_random_programs(self):
        for expression in random_samples(250):
            self.check(elaborate(expression)[0], 40)

    def test_the_less_exact_side_alone(self):
        for one, other in itertools.product(SMALL, SMALL):
            found = may_blame(cast(one, other, 7))
            if less_exact(one, other):
                self.assertNotIn((7, 0), found)
            if less_exact(other, one):
                self.assertNotIn((7, 1), found)
        for seed in range(300):
            chance = random.Random(seed)
            exact = random_type(chance, 6)
            loose = weakened(chance, exact, 0.2)
            self.assertNotIn((7, 0), may_blame(cast(loose, exact, 7)))
            self.assertNotIn((7, 1), may_blame(cast(exact, loose, 7)))

    def test_runs_blame_the_less_exact_side_alone(self):
        for expression in random_samples(250):
            core, _ = elaborate(expression)
            end = run_plain(core, 40)[1]
            if end[0] == "blame":
                _, one, other = [found for found in casts(core) if found[0] == end[1]][0]
                if less_exact(one, other):
                    self.assertEqual(end[2], 1)
                if less_exact(other, one):
                    self.assertEqual(end[2], 0)

    def test_both_sides_where_neither_type_is_less_exact(self):
        one, other = pair(INT, ANY), pair(ANY, UNIT)
        self.assertTrue(consistent(one, other))
        self.assertEqual(may_blame(cast(one, other, 7)), [(7, 1)])
        self.assertEqual(may_blame(cast(fun(ANY, INT), fun(INT, ANY), 7)), [])
        self.assertEqual(may_blame(cast(box(one), box(other), 7)), [(7, 1), (7, 0)])

    def test_exact_programs(self):
        for seed in range(200):
            core, _ = elaborate(random_program(random.Random(seed)))
            self.assertEqual(may_blame(core), [])


if __name__ == "__main__":
    unittest.main()
