"""The plain meaning: points PL1 to PL5."""

import random
import unittest

from halfnoted.check import elaborate
from halfnoted.plain import run_plain
from halfnoted.reader import read
from meaning import Plain
from samples import FORMS, LOOPS, LOW, NAMES, NUMBERS, ORDER, TOP, WRAPPED, blame, number, other, through_any
from trees import ANY, BOOL, INT, UNIT, box, fun, pair
from typed import random_samples


def core_of(text):
    return elaborate(read(text))[0]


def run(text, calls=0):
    return run_plain(core_of(text), calls)


def cast(source, target, core, n=1):
    return ("cast", n, source, target, core)


class Cases(unittest.TestCase):
    def check(self, samples):
        """Each sample ends as it must with exactly enough calls and more; with fewer calls it ends for these."""
        for text, calls, prints, end in samples:
            core = core_of(text)
            self.assertEqual(run_plain(core, calls), (prints, end), text)
            self.assertEqual(run_plain(core, calls + 1), (prints, end), text)
            self.assertEqual(run_plain(core, 10 ** 12), (prints, end), text)
            for fewer in range(calls):
                found, early = run_plain(core, fewer)
                self.assertEqual(early, ("calls",), (text, fewer))
                self.assertEqual(found, prints[:len(found)], text)


class Pl2Evaluation(Cases):
    def test_forms(self):
        self.check(FORMS)

    def test_each_form_of_a_core_expression(self):
        one, yes = ("num", 1), ("flag", True)
        cases = {
            ("num", 7): number(7), yes: ("value", ("bool", True)), ("flag", False): ("value", ("bool", False)),
            ("unit",): other("unit"), ("let", "x", one, ("name", "x")): number(1),
            ("fun", "x", INT, ("name", "x")): other("fun"), ("rec", "h", "x", INT, INT, ("name", "x")): other("fun"),
            ("call", ("fun", "x", INT, ("name", "x")), one): number(1),
            ("call", ("rec", "h", "x", INT, INT, ("name", "x")), one): number(1),
            ("if", yes, one, ("num", 2)): number(1), ("pair", one, yes): other("pair"),
            ("fst", ("pair", one, yes)): number(1), ("snd", ("pair", one, yes)): ("value", ("bool", True)),
            ("box", one): other("box"), ("get", ("box", one)): number(1), ("put", ("box", one), one): other("unit"),
            ("op", "+", one, one): number(2), ("op", "-", one, one): number(0), ("op", "*", one, one): number(1),
            ("op", "<", one, one): ("value", ("bool", False)), ("op", "==", one, one): ("value", ("bool", True)),
            ("not", yes): ("value", ("bool", False)), cast(INT, ANY, one): number(1),
        }
        for core, end in cases.items():
            self.assertEqual(run_plain(core, 1), ((), end), core)
        self.assertEqual(run_plain(("print", one, ("num", 2)), 0), ((1,), number(2)))

    def test_the_kinds_of_what_is_returned(self):
        for text in ("print 1 ; 2", "1 < 2", "print 3 ; (true : any)", "(print 1 ; (1 : any) : bool)"):
            prints, end = run(text)
            self.assertIs(type(prints), tuple)
            self.assertIs(type(end), tuple)
            for printed in prints:
                self.assertIs(type(printed), int)
        self.assertIs(run("1 < 2")[1][1][1], True)
        self.assertIs(run("2 == 1")[1][1][1], False)
        self.assertIs(run("not true")[1][1][1], False)
        self.assertIs(type(run("1 - 1")[1][1][1]), int)
        self.assertEqual([type(one) for one in run("((1 : any) : bool)")[1]], [str, int, int])

    def test_numbers(self):
        self.check(NUMBERS)

    def test_numbers_by_chance(self):
        chance = random.Random(1)
        ends = (0, 1, 2, TOP, TOP - 1, 2 ** 16, 2 ** 30)
        for _ in range(300):
            left, right = (chance.choice(ends + (chance.randrange(2 ** 31),)) for _ in "ab")
            signs = chance.choice(((1, 1), (1, -1), (-1, 1), (-1, -1)))
            terms = [("num", one) if sign > 0 else ("op", "-", ("num", 0), ("num", one))
                     for one, sign in zip((left, right), signs)]
            left, right = left * signs[0], right * signs[1]
            for sign, exact in (("+", left + right), ("-", left - right), ("*", left * right)):
                prints, (kind, (name, found)) = run_plain(("op", sign, *terms), 0)
                self.assertEqual((prints, kind, name, (found - exact) % 2 ** 32), ((), "value", "int", 0))
                self.assertTrue(LOW <= found <= TOP)
            for sign, flag in (("<", left < right), ("==", left == right)):
                self.assertEqual(run_plain(("op", sign, *terms), 0), ((), ("value", ("bool", flag))))

    def test_the_order_of_evaluation(self):
        self.check(ORDER)

    def test_names_and_boxes(self):
        self.check(NAMES)

    def test_one_branch_alone(self):
        loop = "(rec h (n : int) : int => h n) 0"
        for text in (f"if true then 1 else {loop}", f"if false then {loop} else 1"):
            self.check([(text, 0, (), number(1))])

    def test_the_prints_until_an_error(self):
        self.assertEqual(run("print 1 ; print 2 ; (print 3 ; (1 : any) : bool)"), ((1, 2, 3), blame(5, 1)))


class Pl3Casts(Cases):
    def test_through_any(self):
        self.check(through_any())

    def test_casts_that_do_nothing(self):
        for core, end in ((("num", 4), number(4)), (("flag", False), ("value", ("bool", False)))):
            given = INT if core[0] == "num" else BOOL
            self.assertEqual(run_plain(cast(ANY, given, cast(ANY, ANY, cast(given, ANY, core, 1), 2), 3), 0), ((), end))
            self.assertEqual(run_plain(cast(given, given, core), 0), ((), end))
        self.assertEqual(run_plain(cast(UNIT, UNIT, ("unit",)), 0), ((), other("unit")))

    def test_the_ground_is_looked_at_and_no_part(self):
        self.check([
            ("(((fun x : int => x) : any) : bool -> bool)", 0, (), other("fun")),
            ("(((1, 2) : any) : (bool, unit))", 0, (), other("pair")),
            ("((box 1 : any) : box bool)", 0, (), other("box")),
            ("(((1, 2) : (any, any)) : (bool, unit))", 0, (), other("pair")),
        ])

    def test_the_value_inside_is_cast_to_the_type(self):
        self.check([
            ("(((fun x : int => x) : any) : bool -> bool) true", 0, (), blame(3, 0)),
            ("(((fun x => x) : any) : bool -> int) true", 1, (), blame(2, 1)),
            ("fst (((1, 2) : any) : (bool, unit))", 0, (), blame(2, 1)),
            ("snd (((1, 2) : any) : (bool, unit))", 0, (), blame(2, 1)),
            ("get ((box 1 : any) : box bool)", 0, (), blame(2, 1)),
            ("put ((box 1 : any) : box bool) true", 0, (), blame(3, 0)),
        ])


class Pl4Wrapped(Cases):
    def test_wrapped_values(self):
        self.check(WRAPPED)

    def test_a_function_wrapped_many_times(self):
        wraps = "fun x : int => x + 1"
        for many in range(12):
            wraps = f"(({wraps}) : int -> any)" if many % 2 == 0 else f"({wraps} : any -> int)"
            good = "1" if many % 2 == 0 else "(1 : any)"
            self.assertEqual(run(f"{wraps} {good}", 1), ((), number(2)))

    def test_the_order_of_casts(self):
        # Of the argument, the outer cast comes first.
        one = cast(fun(BOOL, INT), fun(ANY, INT), ("fun", "x", BOOL, ("num", 5)), 1)
        two = cast(fun(ANY, INT), fun(INT, INT), one, 2)
        three = cast(fun(INT, INT), fun(ANY, INT), two, 3)
        for argument, given, end in ((("num", 4), INT, blame(1, 0)), (("flag", True), BOOL, blame(3, 0)),
                                     (("unit",), UNIT, blame(3, 0))):
            self.assertEqual(run_plain(("call", three, cast(given, ANY, argument, 4)), 9), ((), end))
        # Of the result, and of the parts of pairs and boxes, the inner one comes first.
        value = cast(INT, ANY, ("num", 5), 4)
        makers = {
            lambda kind: fun(ANY, kind): (("fun", "x", ANY, value), lambda core: ("call", core, value)),
            lambda kind: pair(kind, ANY): (("pair", value, value), lambda core: ("fst", core)),
            lambda kind: pair(ANY, kind): (("pair", value, value), lambda core: ("snd", core)),
            lambda kind: box(kind): (("box", value), lambda core: ("get", core)),
        }
        for make, (inner, use) in makers.items():
            for first, end in ((BOOL, blame(1, 1)), (INT, blame(3, 1))):
                one = cast(make(ANY), make(first), inner, 1)
                two = cast(make(first), make(ANY), one, 2)
                three = cast(make(ANY), make(UNIT), two, 3)
                self.assertEqual(run_plain(use(three), 9), ((), end))

    def test_the_argument_is_cast_before_the_body_is_entered(self):
        core = core_of("((fun x : int => x) : any) true")
        self.assertEqual(run_plain(core, 0), ((), blame(2, 0)))

    def test_put_changes_the_box_inside(self):
        inner = ("box", cast(INT, ANY, ("num", 1), 1))
        wrapped = cast(box(INT), box(ANY), cast(box(ANY), box(INT), ("name", "b"), 2), 3)
        stored = cast(INT, ANY, ("num", 8), 4)
        got = ("pair", ("get", ("name", "b")), ("get", ("name", "c")))
        for half in ("fst", "snd"):
            core = ("let", "b", inner, ("let", "c", wrapped, ("let", "u", ("put", ("name", "c"), stored), (half, got))))
            self.assertEqual(run_plain(core, 0), ((), number(8)))

    def test_a_put_that_fails_leaves_the_box(self):
        text = "let b = box 1 in let c = (b : box any) in print get b ; let u = put c true in print get b ; 0"
        self.assertEqual(run(text), ((1,), blame(5, 0)))


class Pl5Ends(Cases):
    def test_shapes(self):
        values = {
            "int": ("5", ("int", 5)), "bool": ("false", ("bool", False)), "unit": ("unit", ("unit",)),
            "int -> int": ("fun x : int => x", ("fun",)), "(int, bool)": ("(1, true)", ("pair",)),
            "box int": ("box 1", ("box",)),
        }
        loose = {"int -> int": ("any -> int", "int -> any"), "(int, bool)": ("(any, bool)",), "box int": ("box any",)}
        for given, (text, shape) in values.items():
            self.assertEqual(run(text), ((), ("value", shape)))
            self.assertEqual(run(f"(({text}) : any)"), ((), ("value", shape)))
            self.assertEqual(run(f"(((({text}) : any) : {given}) : any)"), ((), ("value", shape)))
            for wider in loose.get(given, ()):
                self.assertEqual(run(f"(({text}) : {wider})"), ((), ("value", shape)))
                self.assertEqual(run(f"((({text}) : {wider}) : any)"), ((), ("value", shape)))
                self.assertEqual(run(f"(((({text}) : {wider}) : {given}) : {wider})"), ((), ("value", shape)))

    def test_calls(self):
        self.check(LOOPS)

    def test_no_call_is_allowed(self):
        functions = ("fun x : int => x", "fun x => x", "((fun x => x) : any)", "rec h (x : int) : int => x")
        for text in [f"({one}) 1" for one in functions]:
            self.assertEqual(run(text, 0), ((), ("calls",)))
            self.assertEqual(run(text, 1), ((), number(1)))

    def test_the_parts_of_a_call_are_evaluated_before_it_is_one_too_many(self):
        self.assertEqual(run("(print 1 ; fun x : int => print 3 ; x) (print 2 ; 5)", 0), ((1, 2), ("calls",)))

    def test_a_call_of_a_wrapped_function_enters_one_body(self):
        text = "let f = ((((fun x : int => x) : any) : any -> any) : int -> any) in f (f (f 4))"
        self.check([(text.replace("f (f (f 4))", "f 4"), 1, (), number(4))])
        self.check([("let f = ((fun x : int => x) : any) in f (f (f 4))", 3, (), number(4))])

    def test_it_ends_the_same_when_it_is_asked_again(self):
        for samples in (LOOPS, WRAPPED, ORDER):
            for text, calls, prints, end in samples:
                core = core_of(text)
                before = repr(core)
                for _ in range(3):
                    self.assertEqual(run_plain(core, calls), (prints, end))
                self.assertEqual(repr(core), before)

    def test_long_loops(self):
        cases = {
            "(rec h (n : int) : int => if n < 1 then 7 else h (n - 1)) 5000": 7,
            "(rec h (n : int) : int => if n < 1 then 7 else 1 + h (n - 1)) 5000": 5007,
            "(rec h (n : int) : any => if n < 1 then (7 : any) else (h (n - 1) : int)) 5000": 7,
            "(rec h (n : any) : any => if n < 1 then 7 else h (n - 1)) 5000": 7,
            "fst ((rec h (n : int) : (int, int) => if n < 1 then (7, 8) else (h (n - 1) : (any, int))) 5000)": 7,
            "get ((rec h (n : int) : box int => if n < 1 then box 7 else (h (n - 1) : box any)) 5000)": 7,
        }
        for text, result in cases.items():
            core = core_of(text)
            self.assertEqual(run_plain(core, 5001), ((), number(result)), text)
            self.assertEqual(run_plain(core, 5000), ((), ("calls",)), text)
        prints, end = run("(rec h (n : int) : int => print n ; h (n + 1)) 0", 4000)
        self.assertEqual((prints, end), (tuple(range(4000)), ("calls",)))

    def test_values_that_are_wrapped_in_every_round(self):
        loops = {
            "int -> int": ("fun x : int => x + 1", "f 4", 1, number(5)),
            "(int, int)": ("(4, 5)", "snd f", 0, number(5)),
            "box int": ("box 4", "let u = put f 5 in get f", 0, number(5)),
        }
        loose = {"int -> int": "any -> any", "(int, int)": "(any, any)", "box int": "box any"}
        for given, (value, used, more, end) in loops.items():
            text = (f"(rec h (n : int) : ({given}) -> int => fun f : {given} => if n < 1 then {used} else "
                    f"h (n - 1) (f : {loose[given]})) 3000 ({value})")
            core = core_of(text)
            self.assertEqual(run_plain(core, 6002 + more), ((), end), text)
            self.assertEqual(run_plain(core, 6001 + more), ((), ("calls",)), text)

    def test_a_list_of_many_pairs(self):
        text = "(rec h (n : int) : any -> any => fun p : any => if n < 1 then p else h (n - 1) (n, p)) 4000 unit"
        self.assertEqual(run(text, 8002), ((), other("pair")))


class Meanings(unittest.TestCase):
    """Random programs, whose meaning is compared with that in tests/meaning.py."""

    def test_random_programs(self):
        ends = set()
        for expression in random_samples(400):
            core, _ = elaborate(expression)
            for calls in (0, 1, 3, 40):
                found = run_plain(core, calls)
                self.assertEqual(found, Plain(calls).outcome(core), expression)
                ends.add(found[1][0] + str(found[1][2:]))
        self.assertLessEqual({"value()", "blame(0,)", "blame(1,)", "calls()"}, ends)


if __name__ == "__main__":
    unittest.main()
