"""The machine: points MA1 to MA5."""

import random
import tracemalloc
import unittest

from halfnoted.check import casts, elaborate
from halfnoted.checks import check_height
from halfnoted.machine import run_machine, run_measured
from halfnoted.plain import run_plain
from halfnoted.reader import read
from halfnoted.types import height
from meaning import Joined
from samples import FORMS, LOOPS, NAMES, NUMBERS, ORDER, TAIL_LOOPS, WRAPPED, number, other, through_any
from trees import ANY, BOOL, INT, UNIT, fun
from typed import random_samples

ALL = FORMS + NUMBERS + ORDER + NAMES + LOOPS + WRAPPED + through_any()


def core_of(text):
    return elaborate(read(text))[0]


def measures(text, calls=100):
    return run_measured(core_of(text), calls)[2]


class Cases(unittest.TestCase):
    def check(self, expected):
        """Each text has these measures when it is run."""
        for text, found in expected.items():
            result = measures(text)
            self.assertEqual(result, found, text)
            self.assertIs(type(result), tuple)
            self.assertEqual([type(one) for one in result], [int, int, int])


class Ma1Outcomes(Cases):
    def test_it_prints_and_ends_as_it_must(self):
        for text, calls, prints, end in ALL:
            core = core_of(text)
            before = repr(core)
            for more in (0, 1, 10 ** 12):
                self.assertEqual(run_machine(core, calls + more), (prints, end), text)
                self.assertEqual(run_measured(core, calls + more)[:2], (prints, end), text)
            self.assertEqual(repr(core), before)

    def test_it_does_what_the_plain_meaning_does_for_each_number_of_calls(self):
        for text, calls, _, _ in ALL:
            core = core_of(text)
            for allowed in range(calls + 2):
                self.assertEqual(run_machine(core, allowed), run_plain(core, allowed), (text, allowed))

    def test_the_kinds_of_what_is_returned(self):
        for text in ("print 1 ; 2", "1 < 2", "print 3 ; (true : any)", "(print 1 ; (1 : any) : bool)"):
            prints, end = run_machine(core_of(text), 0)
            self.assertEqual((type(prints), type(end)), (tuple, tuple))
            self.assertEqual([type(one) for one in prints], [int] * len(prints))
            self.assertEqual(len(run_measured(core_of(text), 0)), 3)
        self.assertIs(run_machine(core_of("1 < 2"), 0)[1][1][1], True)
        self.assertEqual([type(one) for one in run_machine(core_of("((1 : any) : bool)"), 0)[1]], [str, int, int])

    def test_random_programs(self):
        for expression in random_samples(300):
            core, _ = elaborate(expression)
            for calls in (0, 1, 2, 5, 40):
                self.assertEqual(run_machine(core, calls), run_plain(core, calls), expression)

    def test_long_loops(self):
        for text in (
                "(rec h (n : int) : int => if n < 1 then 7 else 1 + h (n - 1)) 4000",
                "(rec h (n : int) : any => if n < 1 then (7 : any) else (h (n - 1) : int)) 4000",
                "fst ((rec h (n : int) : (int, int) => if n < 1 then (7, 8) else (h (n - 1) : (any, int))) 4000)",
                "(rec h (n : int) : box int => if n < 1 then box 7 else (h (n - 1) : box any)) 4000"):
            core = core_of(text)
            for calls in (4000, 4001):
                self.assertEqual(run_machine(core, calls), run_plain(core, calls), text)

    def test_values_that_are_checked_in_every_round(self):
        for given, value, used, end in (
                ("int -> int", "fun x : int => x + 1", "f 4", 5), ("(int, int)", "(4, 5)", "snd f", 5),
                ("box int", "box 4", "let u = put f 5 in get f", 5)):
            loose = given.replace("int", "any")
            core = core_of(f"(rec h (n : int) : ({given}) -> int => fun f : {given} => if n < 1 then {used} else "
                           f"h (n - 1) (f : {loose})) 2000 ({value})")
            self.assertEqual(run_machine(core, 5000), ((), number(end)))

    def test_box_types_inside_one_another(self):
        given = "box " * 12 + "int"
        loose = "box " * 12 + "any"
        value = "(box " * 12 + "5" + ")" * 12
        for text in (f"(({value} : any) : {given})", f"({value} : {loose})", f"(({value} : {loose}) : {given})"):
            core = core_of(text)
            self.assertEqual(run_machine(core, 0), ((), other("box")))
            text = "get " * 12 + f"({text} : {given})"
            self.assertEqual(run_machine(core_of(text), 0), ((), number(5)))

    def test_pairs_of_one_part_twice(self):
        text = "let x = (1, 1) in " + "let x = (x, x) in " * 48 + "fst (x : any)"
        self.assertEqual(run_machine(core_of(text), 0), ((), other("pair")))


# The measures of each form. What waits: a form for each of its parts but those in tail places.
WAITING = {
    "1": (0, 0, 0), "true": (0, 0, 0), "unit": (0, 0, 0), "fun x => x": (0, 0, 0),
    "rec h (x : int) : int => x": (0, 0, 0),
    "let x = 1 in 2": (1, 0, 0), "let x = 1 in let y = 2 in x": (1, 0, 0), "let x = let y = 1 in y in x": (2, 0, 0),
    "if true then 1 else 2": (1, 0, 0), "if true then (if true then 1 else 2) else 3": (1, 0, 0),
    "if false then 1 else if true then 2 else 3": (1, 0, 0), "if not true then 1 else 2": (2, 0, 0),
    "print 1 ; 2": (1, 0, 0), "print 1 ; print 2 ; 3": (1, 0, 0), "print (print 1 ; 2) ; 3": (2, 0, 0),
    "(1, 2)": (1, 0, 0), "((1, 2), 3)": (2, 0, 0), "(1, (2, 3))": (2, 0, 0), "fst (1, 2)": (2, 0, 0),
    "snd (1, 2)": (2, 0, 0), "box 1": (1, 0, 0), "get box 1": (2, 0, 0), "put (box 1) 2": (2, 0, 0),
    "let b = box 1 in put b (get b)": (2, 0, 0), "1 + 2": (1, 0, 0), "1 + 2 + 3": (2, 0, 0), "1 - (2 * 3)": (2, 0, 0),
    "1 < 2": (1, 0, 0), "not true": (1, 0, 0), "not not not true": (3, 0, 0),
    "(fun x : int => x) 1": (1, 0, 0), "(fun x : int => x + 1) 1": (1, 0, 0),
    "(fun x : int => (x, (x, x))) 1": (2, 0, 0),
    "(fun x : int => x) (1 + 2)": (2, 0, 0), "(fun x : int => x) ((fun x : int => x) (1 + 2))": (3, 0, 0),
    "((fun x : int => fun y : int => x) 1) 2": (2, 0, 0), "(let x = 1 in fun y : int => y) 1": (2, 0, 0),
    "let f = fun x : int => x in f (f (f 1))": (3, 0, 0), "(3 : int)": (0, 0, 0),
}

# What is pending: the check of each cast, from when its value begins to be evaluated.
PENDING = {
    "(1 : any)": (0, 1, 2), "(true : any)": (0, 1, 2), "((1 : any) : int)": (0, 1, 2), "((1 : any) : bool)": (0, 1, 2),
    "(((1 : any) : int) : any)": (0, 1, 3), "((((1 : any) : int) : any) : int)": (0, 1, 2),
    "((fun x => x) : int -> int)": (0, 1, 5), "((1, 2) : any)": (1, 1, 6), "((1, 2) : (any, int))": (1, 1, 4),
    "(box 1 : any)": (1, 1, 6), "(box 1 : box any)": (1, 1, 5), "(1 + 2 : any)": (1, 1, 2),
    "((1 : any), (2 : any))": (1, 1, 2), "(((1 : any), (2 : any)) : (int, int))": (1, 2, 7),
    "((1 : any) + 1 : any)": (1, 2, 4), "(let x = (1 : any) in x : int)": (1, 2, 4),
    "(if (true : any) then (1 : any) else 2 : any)": (1, 2, 4),
    "(print (1 : any) ; (2 : any) : int)": (1, 2, 4), "(print 1 ; 2 : any)": (1, 1, 2),
    "fst (((1, 2) : any) : (int, any))": (2, 1, 5), "(fun x => x + 1) 2": (1, 1, 2), "(fun x => x) 2": (1, 1, 2),
    "(fun x => (x : int)) 2": (1, 1, 2), "((fun x => x) : int -> int) 2": (1, 1, 5),
    "((fun x : int => x) : any -> any) 2": (1, 1, 5), "((fun x => (x, x)) : any -> any) unit": (1, 1, 6),
    "get (box 1 : box any)": (2, 1, 5), "put (box 1 : box any) 2": (2, 1, 5), "not (true : any)": (1, 1, 2),
    "(unit : any)": (0, 1, 2), "(((unit : any), 1) : any)": (1, 2, 7),
}


class Ma4Measures(Cases):
    def test_what_waits(self):
        self.check(WAITING)

    def test_what_is_pending(self):
        self.check(PENDING)

    def test_programs_without_casts_have_nothing_pending(self):
        for text, calls, _, _ in FORMS + NUMBERS + ORDER + NAMES:
            core = core_of(text)
            if not casts(core):
                self.assertEqual(run_measured(core, calls)[2][1:], (0, 0), text)

    def test_the_result_check_of_a_wrapped_function_is_pending(self):
        one = ("cast", 1, fun(INT, ANY), fun(INT, INT), ("fun", "x", INT, ("cast", 2, INT, ANY, ("name", "x"))))
        core = ("call", one, ("num", 4))
        # The greatest moment is the wrapping itself; then it is the body with the result check and the one in it.
        self.assertEqual(run_measured(core, 1), ((), number(4), (1, 1, 4)))
        core = ("let", "f", one, ("pair", ("call", ("name", "f"), ("num", 4)), ("unit",)))
        self.assertEqual(run_measured(core, 1), ((), other("pair"), (2, 1, 4)))
        core = ("let", "f", ("fun", "x", INT, ("cast", 2, INT, ANY, ("name", "x"))),
                ("cast", 5, INT, ANY, ("call", ("cast", 1, fun(INT, ANY), fun(INT, INT), ("name", "f")), ("num", 4))))
        self.assertEqual(run_measured(core, 1), ((), number(4), (1, 2, 6)))

    def test_a_result_check_is_joined_with_what_is_pending(self):
        whole = "let f = ((fun x => x) : int -> int) in let g = fun x : int => (f x : any) in g 1"
        self.assertEqual(run_measured(core_of(whole), 9), ((), number(1), (1, 1, 5)))
        # The first is pending when the argument is evaluated, and no more when the body is.
        whole = whole.replace("f x", "f (x : any)")
        self.assertEqual(run_measured(core_of(whole), 9), ((), number(1), (1, 2, 5)))

    def test_parts_of_wrapped_values_are_checked_at_once(self):
        for text in ("let p = ((1, 2) : (any, int)) in {}", "let b = (box 1 : box any) in {}"):
            begin = text.replace("{}", "0")
            for use in ("fst p", "snd p") if "p =" in text else ("get b", "put b 2"):
                pending = 0 if use != "put b 2" else 2
                found = measures(text.replace("{}", use))
                self.assertEqual(found, (max(2, measures(begin)[0]), 1, max(measures(begin)[2], pending)), use)

    def test_the_moments_until_the_end_count(self):
        cases = {
            # (text, calls): measures
            ("((1 : any) : bool)", 0): (0, 1, 2), ("(1 + (print 1 ; (true : any)), 2)", 0): (3, 1, 2),
            ("(fun x : int => x) (1 + 2)", 0): (2, 0, 0), ("(fun x : int => (x, (x, x))) 1", 0): (1, 0, 0),
            ("((fun x : int => (x, (x, x))) 1 : any)", 0): (1, 1, 10),
            ("((fun x : int => 1 + (x + x)) 1 : any)", 0): (1, 1, 2),
            ("((fun x : int => 1 + (x + x)) 1 : any)", 1): (2, 1, 2),
            ("(rec h (n : int) : int => 1 + h n) 0", 0): (1, 0, 0),
            ("(rec h (n : int) : int => 1 + h n) 0", 1): (2, 0, 0),
            ("(rec h (n : int) : int => 1 + h n) 0", 7): (8, 0, 0),
        }
        for (text, calls), expected in cases.items():
            core = core_of(text)
            result = run_measured(core, calls)
            self.assertEqual(result[2], expected, (text, calls))
            self.assertEqual(result, Joined(calls).measured(core))

    def test_the_measures_of_the_meaning(self):
        for text, calls, _, _ in ALL:
            core = core_of(text)
            for allowed in range(calls + 2):
                self.assertEqual(run_measured(core, allowed), Joined(allowed).measured(core), (text, allowed))

    def test_the_measures_of_random_programs(self):
        for expression in random_samples(300):
            core, _ = elaborate(expression)
            for calls in (0, 1, 4, 40):
                self.assertEqual(run_measured(core, calls), Joined(calls).measured(core), expression)


class Ma5Facts(Cases):
    def test_loops_in_tail_places(self):
        for text in TAIL_LOOPS:
            first = measures(text.replace("{}", "3"))
            for rounds in (4, 5, 50, 400):
                core = core_of(text.replace("{}", str(rounds)))
                self.assertEqual(run_measured(core, 10 ** 6)[2], first, text)
                self.assertEqual(run_measured(core, 10 ** 6)[1][0], "value")

    def test_a_loop_that_ends_for_its_calls(self):
        for text in TAIL_LOOPS:
            core = core_of(text.replace("{}", "1000"))
            found = [run_measured(core, calls) for calls in (20, 200, 500)]
            self.assertEqual([end for _, end, _ in found], [("calls",)] * 3, text)
            self.assertEqual(found[0][2], found[1][2], text)
            self.assertEqual(found[1][2], found[2][2], text)

    def test_loops_that_are_nested(self):
        for rounds in (3, 10, 50):
            self.assertEqual(measures(f"(rec h (n : int) : int => if n < 1 then 0 else 1 + h (n - 1)) {rounds}"),
                             (rounds + 2, 0, 0))
            text = f"(rec h (n : int) : int => if n < 1 then 0 else 1 + (h (n - 1) : any)) {rounds}"
            self.assertEqual(measures(text), (rounds + 2, rounds, rounds + 1))

    def test_the_bounds(self):
        for text, calls, _, _ in ALL:
            self.check_bounds(core_of(text), calls)
        for expression in random_samples(200):
            self.check_bounds(elaborate(expression)[0], 40)
        for text in TAIL_LOOPS:
            self.check_bounds(core_of(text.replace("{}", "20")), 100)

    def check_bounds(self, core, calls):
        waiting, pending, cells = run_measured(core, calls)[2]
        types = [height(one) for found in casts(core) for one in found[1:]]
        self.assertLessEqual(pending, waiting + 1)
        if types:
            self.assertLessEqual(cells, (waiting + 1) * (3 * 2 ** max(types) - 3))
        else:
            self.assertEqual((pending, cells), (0, 0))

    def test_no_pending_check_is_higher_than_the_highest_type(self):
        for expression in random_samples(150):
            core, _ = elaborate(expression)
            meaning = Joined(40)
            meaning.outcome(core)
            most = max([height(one) for found in casts(core) for one in found[1:]], default=0)
            for _, pending in meaning.moments:
                for check in pending:
                    self.assertLessEqual(check_height(check), most)


def peak(text, calls):
    """The most memory that a run of a program takes."""
    core = core_of(text)
    tracemalloc.start()
    run_machine(core, calls)
    found = tracemalloc.get_traced_memory()[1]
    tracemalloc.stop()
    return found


class Ma1Values(Cases):
    def test_no_wrapped_value_stands_directly_inside_a_wrapped_one(self):
        # Otherwise the memory would grow with the rounds.
        for given, value in (("int -> int", "fun x : int => x"), ("(int, int)", "(4, 5)"), ("box int", "box 4")):
            loop = (f"(rec h (n : int) : ({given}) -> {given} => fun f : {given} => if n < 1 then f else "
                    f"h (n - 1) (f : {given.replace('int', 'any')})) {{}} ({value})")
            self.assertLess(peak(loop.replace("{}", "1000"), 9999), 2 * peak(loop.replace("{}", "50"), 9999))

    def test_checks_of_a_value_are_joined(self):
        # The check of the cast that comes first fails first, in whatever order they are joined.
        for chance in (random.Random(seed) for seed in range(200)):
            value = chance.choice((("num", 5), ("flag", True), ("unit",)))
            given = {"num": INT, "flag": BOOL, "unit": UNIT}[value[0]]
            core = ("fun", "x", INT, ("cast", 9, given, ANY, value))
            now = ANY
            for at in range(chance.randrange(2, 6)):
                wanted = ANY if now != ANY else chance.choice((INT, BOOL, UNIT))
                core = ("cast", at + 10, fun(INT, now), fun(INT, wanted), core)
                now = wanted
            core = ("call", core, ("num", 1))
            self.assertEqual(run_machine(core, 3), run_plain(core, 3))


if __name__ == "__main__":
    unittest.main()
