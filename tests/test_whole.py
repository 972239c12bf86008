"""The whole: points WH1 to WH5, and what points CK4, PL5 and CH5 say of it."""

import random
import unittest

from halfnoted.blame import may_blame
from halfnoted.check import casts, elaborate
from halfnoted.checks import check_height
from halfnoted.code import compile_core
from halfnoted.errors import Malformed, Mismatched, Unbounded, Unknown
from halfnoted.machine import run_machine, run_measured
from halfnoted.plain import run_plain
from halfnoted.programs import annotations, erased, is_exact, is_less_exact, with_annotations
from halfnoted.reader import read
from halfnoted.runner import run_code, run_room
from halfnoted.types import height
from halfnoted.whole import all_outcomes, outcome
from halfnoted.writer import show
from samples import FORMS, LOOPS, NAMES, NUMBERS, ORDER, TAIL_LOOPS, WRAPPED, blame, number, other, through_any
from support import fault
from trees import ANY
from typed import doubted, loosened, random_program, random_samples

ALL = FORMS + NUMBERS + ORDER + NAMES + LOOPS + WRAPPED + through_any()
ROADS = ("plain", "machine", "code")


def roads(expression, calls):
    """The outcomes of an expression on the three roads."""
    core, _ = elaborate(expression)
    return [run_plain(core, calls), run_machine(core, calls), run_code(compile_core(core), calls)]


class Wh1Roads(unittest.TestCase):
    def test_each_road(self):
        for text, calls, prints, end in ALL:
            for road in ROADS:
                self.assertEqual(outcome(text, calls, road=road), (prints, end), (text, road))
            self.assertEqual(outcome(text, calls), (prints, end), text)
            self.assertEqual(outcome(text, calls + 7), (prints, end), text)

    def test_the_roads_are_the_runs_of_their_names(self):
        for text in ("print 1 ; (true : any)", "(fun x => x + 1) true", "(rec h (n : int) : int => h n) 0"):
            core, _ = elaborate(read(text))
            for calls in (0, 1, 5):
                self.assertEqual(outcome(text, calls, road="plain"), run_plain(core, calls))
                self.assertEqual(outcome(text, calls, road="machine"), run_machine(core, calls))
                self.assertEqual(outcome(text, calls, road="code"), run_code(compile_core(core), calls))

    def test_an_unknown_road(self):
        texts = ("1", "", "x", "1 + true", ")", "1" * 20000, "(" * 100, "(rec h (n : int) : int => h n) 0", "A", "007")
        for road in ("", "Plain", "rows", "plain ", "codes", "run_code", "plain,machine"):
            for text in texts:
                with self.assertRaises(Unknown) as caught:
                    outcome(text, 0, road=road)
                self.assertEqual(vars(caught.exception), {"name": road})

    def test_what_read_and_elaborate_raise(self):
        cases = {
            "": ("Malformed", {"at": 0}), "1 +": ("Malformed", {"at": 3}), "fst (1, 2": ("Malformed", {"at": 9}),
            "07": ("Malformed", {"at": 0}), "1 2 )": ("Malformed", {"at": 4}), "#": ("Malformed", {"at": 0}),
            " " * 10001: ("Unbounded", {"name": "text"}), "(" * 61: ("Unbounded", {"name": "depth"}),
            "x": ("Unknown", {"name": "x"}), "let x = y in x": ("Unknown", {"name": "y"}),
            "1 + true": ("Mismatched", {"number": 2}), "fst 1": ("Mismatched", {"number": 1}),
            "1 2": ("Mismatched", {"number": 1}), "if 1 then 2 else 3": ("Mismatched", {"number": 1}),
            "if true then 2 else unit": ("Mismatched", {"number": 3}), "(x : int) +": ("Malformed", {"at": 11}),
        }
        for text, expected in cases.items():
            self.assertEqual(fault(outcome, text, 5), expected, text)
            self.assertEqual(fault(all_outcomes, text, 5), expected, text)
            for road in ROADS:
                self.assertEqual(fault(lambda given, name: outcome(given, 5, road=name), text, road), expected, text)
        for kind in (Malformed, Mismatched, Unbounded, Unknown):
            self.assertTrue(issubclass(kind, ValueError))

    def test_errors_come_before_anything_is_run(self):
        text = "let u = (rec h (n : int) : int => h n) 0 in 1 + true"
        self.assertEqual(fault(outcome, text, 10), ("Mismatched", {"number": 9}))

    def test_how_the_road_is_passed(self):
        with self.assertRaises(TypeError):
            outcome("1", 0, "plain")
        with self.assertRaises(TypeError):
            all_outcomes("1", 0, road="plain")


class Wh2Sameness(unittest.TestCase):
    def test_all_outcomes(self):
        for text, calls, prints, end in ALL:
            found = all_outcomes(text, calls)
            self.assertEqual(found, [(prints, end)] * 3, text)
            self.assertEqual((type(found), [type(one) for one in found]), (list, [tuple] * 3))
            for allowed in range(calls):
                self.assertEqual(all_outcomes(text, allowed), [outcome(text, allowed, road="plain")] * 3, text)

    def test_they_are_the_same_when_they_are_asked_again(self):
        for text, calls, _, _ in WRAPPED:
            self.assertEqual(all_outcomes(text, calls), all_outcomes(text, calls))

    def test_random_texts(self):
        for expression in random_samples(80):
            text = show(expression)
            if len(text) <= 10000:
                for calls in (0, 2, 30):
                    first, second, third = all_outcomes(text, calls)
                    self.assertEqual(first, second, text)
                    self.assertEqual(first, third, text)

    def test_loops(self):
        for text in TAIL_LOOPS:
            for calls in (0, 1, 7, 100, 500):
                found = all_outcomes(text.replace("{}", "40"), calls)
                self.assertEqual(found, [found[0]] * 3, text)

    def test_the_deepest_texts(self):
        texts = {
            "(" * 29 + "1" + ")" * 29: number(1), "not " * 58 + "true": ("value", ("bool", True)),
            "box " * 11 + "1": other("box"), "fun x => " * 58 + "x": other("fun"),
            "let x = 1 in " * 58 + "x": number(1),
            "(" * 20 + "1" + " : any)" * 20: number(1), "fst (" * 15 + "1" + ", 2)" * 15: number(1),
            "(fun x => " * 14 + "x" + ") 1" * 14: None,
        }
        for text, end in texts.items():
            found = all_outcomes(text, 100)
            self.assertEqual(found, [found[0]] * 3, text)
            if end is not None:
                self.assertEqual(found[0], ((), end), text)


class Wh3FewerAnnotations(unittest.TestCase):
    def check(self, exact, loose, calls):
        self.assertTrue(is_less_exact(loose, exact))
        for before, after in zip(roads(exact, calls), roads(loose, calls)):
            if before[1][0] == "blame":
                self.assertEqual(after[0][:len(before[0])], before[0], (exact, loose))
            else:
                self.assertEqual(after, before, (exact, loose))
            if after[1][0] == "blame":
                self.assertEqual(before[1][0], "blame", (exact, loose))
            self.found.add((before[1][0], after[1][0]))

    def setUp(self):
        self.found = set()

    def test_the_three_rows(self):
        later = "print 1 ; let x = ((true : any) : {}) in print {} ; 3"
        cases = [
            ("(fun x : int => x + 1) 2", "(fun x => x + 1) 2"),
            ("(rec h (n : int) : int => print n ; h (n + 1)) 0", "(rec h (n : any) : any => print n ; h (n + 1)) 0"),
            (later.format("int", "2"), later.format("any", "2")), (later.format("int", "x"), later.format("any", "x")),
            ("((fun x => x) : int -> bool) 1", "((fun x => x) : any -> bool) 1"),
            ("((fun x => x) : int -> bool) 1", "((fun x => x) : any) 1"),
            ("((box (true : any) : box int), 5)", "((box (true : any) : box any), 5)"),
            ("get (box (true : any) : box int)", "get (box (true : any) : box any)"),
        ]
        for exact, loose in cases:
            for calls in (0, 1, 2, 5):
                self.check(read(exact), read(loose), calls)
        ends = {("value", "value"), ("calls", "calls"), ("blame", "value"), ("blame", "blame")}
        self.assertLessEqual(ends, self.found)

    def test_one_annotation_at_a_time(self):
        for text, calls, _, _ in WRAPPED + LOOPS + ORDER:
            exact = read(text)
            types = annotations(exact)
            for at in range(len(types)):
                loose = with_annotations(exact, types[:at] + [ANY] + types[at + 1:])
                for allowed in (0, calls, calls + 5):
                    self.check(exact, loose, allowed)

    def test_random_programs(self):
        for seed in range(250):
            chance = random.Random(seed)
            exact = random_program(chance)
            wrong = doubted(chance, exact)
            for one in (exact, wrong):
                looser = loosened(chance, one)
                for loose in (looser, loosened(chance, looser), erased(one)):
                    for calls in (0, 2, 40):
                        self.check(one, loose, calls)
        self.assertLessEqual({("value", "value"), ("blame", "value"), ("blame", "blame")}, self.found)

    def test_chained_programs(self):
        for expression in random_samples(150):
            chance = random.Random(1)
            for loose in (loosened(chance, expression), erased(expression)):
                self.check(expression, loose, 30)


class Wh4FullyAnnotated(unittest.TestCase):
    def test_expressions_without_any(self):
        for seed in range(400):
            exact = random_program(random.Random(seed))
            self.assertTrue(is_exact(exact))
            core, _ = elaborate(exact)
            self.assertEqual(casts(core), [])
            self.assertEqual(may_blame(core), [])
            for calls in (0, 1, 30):
                for _, end in roads(exact, calls):
                    self.assertNotEqual(end[0], "blame")
            self.assertEqual(run_measured(core, 30)[2][1:], (0, 0))
            self.assertEqual(run_room(compile_core(core), 30)[2][1], 0)

    def test_samples_without_any(self):
        many = 0
        for text, calls, _, end in ALL:
            if is_exact(read(text)):
                many += 1
                self.assertEqual(casts(elaborate(read(text))[0]), [], text)
                self.assertNotEqual(end[0], "blame")
        self.assertGreater(many, 80)


class Wh5Room(unittest.TestCase):
    def test_the_sizes_of_what_is_pending(self):
        cores = [elaborate(read(text))[0] for text, _, _, _ in ALL]
        cores += [elaborate(expression)[0] for expression in random_samples(150)]
        cores += [elaborate(read(text.replace("{}", "30")))[0] for text in TAIL_LOOPS]
        for core in cores:
            most = max([height(one) for found in casts(core) for one in found[1:]], default=0)
            rows = compile_core(core)
            for row in rows:
                if row[0] in ("check", "join"):
                    self.assertLessEqual(check_height(row[1]), most)
            waiting, pending, cells = run_measured(core, 60)[2]
            self.assertLessEqual(pending, waiting + 1)
            self.assertLessEqual(cells, (waiting + 1) * (3 * 2 ** most - 3))
            open_calls, cells = run_room(rows, 60)[2]
            self.assertLessEqual(cells, open_calls * (3 * 2 ** most - 3))


if __name__ == "__main__":
    unittest.main()
