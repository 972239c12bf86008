"""Running code: points RU1 to RU4."""

import unittest

from halfnoted.check import elaborate
from halfnoted.checks import check_height
from halfnoted.code import compile_core
from halfnoted.plain import run_plain
from halfnoted.reader import read
from halfnoted.runner import run_code, run_room
from meaning import Rooms
from samples import FORMS, LOOPS, NAMES, NUMBERS, ORDER, TAIL_LOOPS, WRAPPED, blame, number, other, through_any
from trees import ANY, INT, fun
from typed import random_samples

ALL = FORMS + NUMBERS + ORDER + NAMES + LOOPS + WRAPPED + through_any()
I = ("same", "int")
RETURN, TAIL = ("return",), ("tail",)


def core_of(text):
    return elaborate(read(text))[0]


def rows_of(text):
    return compile_core(core_of(text))


def room(text, calls=100):
    return run_room(rows_of(text), calls)[2]


class Ru3Ends(unittest.TestCase):
    def test_it_prints_and_ends_as_it_must(self):
        for text, calls, prints, end in ALL:
            rows = rows_of(text)
            before = repr(rows)
            for more in (0, 1, 10 ** 12):
                self.assertEqual(run_code(rows, calls + more), (prints, end), text)
                self.assertEqual(run_code(rows, calls + more), (prints, end), text)
                self.assertEqual(run_room(rows, calls + more)[:2], (prints, end), text)
            self.assertEqual(repr(rows), before)

    def test_it_does_what_the_plain_meaning_does_for_each_number_of_calls(self):
        for text, calls, _, _ in ALL:
            core = core_of(text)
            rows = compile_core(core)
            for allowed in range(calls + 2):
                self.assertEqual(run_code(rows, allowed), run_plain(core, allowed), (text, allowed))

    def test_random_programs(self):
        for expression in random_samples(300):
            core, _ = elaborate(expression)
            rows = compile_core(core)
            for calls in (0, 1, 2, 5, 40):
                expected = run_plain(core, calls)
                self.assertEqual(run_code(rows, calls), expected, expression)
                self.assertEqual(run_room(rows, calls)[:2], expected, expression)

    def test_the_kinds_of_what_is_returned(self):
        for text in ("print 1 ; 2", "1 < 2", "print 3 ; (true : any)", "(print 1 ; (1 : any) : bool)"):
            prints, end = run_code(rows_of(text), 0)
            self.assertEqual((type(prints), type(end)), (tuple, tuple))
            self.assertEqual([type(one) for one in prints], [int] * len(prints))
            found = run_room(rows_of(text), 0)
            self.assertEqual((type(found), type(found[2])), (tuple, tuple))
            self.assertEqual([type(one) for one in found[2]], [int, int])
        self.assertIs(run_code(rows_of("1 < 2"), 0)[1][1][1], True)

    def test_long_loops(self):
        for text in (
                "(rec h (n : int) : int => if n < 1 then 7 else 1 + h (n - 1)) 4000",
                "(rec h (n : int) : any => if n < 1 then (7 : any) else (h (n - 1) : int)) 4000",
                "1 + (rec h (n : int) : any => if n < 1 then (7 : any) else 1 + (h (n - 1) : int)) 4000",
                "fst ((rec h (n : int) : (int, int) => if n < 1 then (7, 8) else (h (n - 1) : (any, int))) 4000)",
                "(rec h (n : int) : box int => if n < 1 then box 7 else (h (n - 1) : box any)) 4000"):
            core = core_of(text)
            for calls in (4000, 4001):
                self.assertEqual(run_code(compile_core(core), calls), run_plain(core, calls), text)

    def test_box_types_inside_one_another(self):
        given, loose = "box " * 12 + "int", "box " * 12 + "any"
        value = "(box " * 12 + "5" + ")" * 12
        for text in (f"(({value} : any) : {given})", f"({value} : {loose})", f"(({value} : {loose}) : {given})"):
            self.assertEqual(run_code(rows_of(text), 0), ((), other("box")))
            self.assertEqual(run_code(rows_of("get " * 12 + f"({text} : {given})"), 0), ((), number(5)))


class Ru2Rows(unittest.TestCase):
    """Rows that no compiler wrote."""

    def check(self, rows, expected, calls=9):
        self.assertEqual(run_code(rows, calls), expected)

    def test_values(self):
        self.check([("int", 7), RETURN], ((), number(7)))
        self.check([("int", 7), ("int", 8), RETURN], ((), number(8)))
        self.check([("flag", True), RETURN], ((), ("value", ("bool", True))))
        self.check([("unit",), RETURN], ((), other("unit")))
        self.check([("close", 0, True), RETURN], ((), other("fun")))

    def test_bindings(self):
        rows = [("int", 1), ("bind",), ("int", 2), ("bind",)]
        self.check(rows + [("load", 0), RETURN], ((), number(2)))
        self.check(rows + [("load", 1), RETURN], ((), number(1)))
        self.check(rows + [("unbind",), ("load", 0), RETURN], ((), number(1)))

    def test_jumps(self):
        self.check([("jump", 3), ("int", 1), RETURN, ("int", 2), RETURN], ((), number(2)))
        for flag, end in ((True, 1), (False, 2)):
            self.check([("flag", flag), ("unless", 4), ("int", 1), RETURN, ("int", 2), RETURN], ((), number(end)))
        self.check([("jump", 3), ("int", 4), RETURN, ("jump", 1), RETURN], ((), number(4)))

    def test_the_last_value_is_on_top(self):
        self.check([("int", 5), ("int", 3), ("op", "-"), RETURN], ((), number(2)))
        self.check([("int", 5), ("int", 3), ("op", "<"), RETURN], ((), ("value", ("bool", False))))
        self.check([("int", 5), ("int", 3), ("pair",), ("fst",), RETURN], ((), number(5)))
        self.check([("int", 5), ("int", 3), ("pair",), ("snd",), RETURN], ((), number(3)))
        self.check([("int", 5), ("box",), ("bind",), ("load", 0), ("int", 6), ("put",), ("load", 0), ("get",), RETURN],
                   ((), number(6)))
        self.check([("int", 5), ("box",), ("int", 6), ("put",), RETURN], ((), other("unit")))

    def test_print_pushes_nothing(self):
        self.check([("int", 1), ("int", 2), ("print",), RETURN], ((2,), number(1)))

    def test_a_call_goes_back_to_the_next_row(self):
        rows = [("close", 6, False), ("int", 1), ("call",), ("int", 1), ("op", "+"), RETURN,
                ("load", 0), ("int", 1), ("op", "+"), RETURN]
        self.check(rows, ((), number(3)))
        rows[2] = TAIL
        self.check(rows, ((), number(2)))

    def test_a_call_has_the_bindings_of_the_function(self):
        rows = [("int", 5), ("bind",), ("close", 11, False), ("int", 6), ("bind",), ("int", 7), ("call",), ("load", 0),
                ("pair",), ("fst",), RETURN, ("load", 0), ("load", 1), ("op", "*"), RETURN]
        self.check(rows, ((), number(35)))
        self.check(rows[:9] + [("snd",)] + rows[10:], ((), number(6)))

    def test_whether_a_function_binds_itself(self):
        rows = [("int", 9), ("bind",), ("close", 5, False), ("int", 7), TAIL, ("load", 1), RETURN]
        self.check(rows, ((), number(9)))
        rows[2] = ("close", 5, True)
        self.check(rows, ((), other("fun")))
        rows[5] = ("load", 2)
        self.check(rows, ((), number(9)))

    def test_checks(self):
        give, take = ("give", I), ("take", "bool", (4, 0), ("same", "bool"))
        self.check([("int", 1), ("check", give), ("check", take), RETURN], ((), blame(4, 0)))
        self.check([("int", 1), ("check", ("take", "int", (4, 0), I)), RETURN], ((), number(1)))
        self.check([("join", take), ("join", give), ("int", 1), RETURN], ((), blame(4, 0)))
        self.check([("join", take), ("join", give), ("int", 1), ("print",), ("int", 2), RETURN], ((1,), blame(4, 0)))
        self.check([("int", 1), ("check", take), ("print",), RETURN], ((), blame(4, 0)))

    def test_a_joined_check_is_made_when_the_call_ends(self):
        fail = ("fail", "int", (4, 1), "box")
        rows = [("close", 5, False), ("int", 1), ("call",), ("print",), TAIL, ("join", fail), ("int", 3), ("print",),
                ("load", 0), RETURN]
        self.check(rows, ((3,), blame(4, 1)))
        rows = [("join", fail), ("close", 4, False), ("int", 1), TAIL, ("load", 0), ("print",), ("int", 2), RETURN]
        self.check(rows, ((1,), blame(4, 1)))
        rows[3:3] = [("call",), ("print",), ("close", 7, False), ("int", 5)]
        rows[1] = rows[5] = ("close", 8, False)
        self.check(rows, ((1, 2, 5), blame(4, 1)))

    def test_a_wrapped_function(self):
        # The result check is joined before the one that is pending, so the first label is that of the wrapper.
        wrapper = ("fun", ("give", I), ("take", "int", (1, 1), ("give", I)))
        outer = ("take", "bool", (2, 1), ("same", "bool"))
        rows = [("join", outer), ("close", 5, False), ("check", wrapper), ("int", 1), TAIL, ("load", 0), RETURN]
        self.check(rows, ((), blame(2, 1)))
        self.check(rows[:5] + [("flag", True), RETURN], ((), blame(1, 1)))
        self.check(rows[1:2] + [("check", ("fun", ("fail", "int", (7, 0), "box"), I))] + rows[3:], ((), blame(7, 0)), 0)


ROOMS = {
    "1": (1, 0), "(1 : any)": (1, 2), "((1 : any) : int)": (1, 2), "(((1 : any) : int) : any)": (1, 3),
    "((1 : any), 2)": (1, 0), "(fun x : int => x) 1": (1, 0), "1 + (fun x : int => x) 1": (2, 0),
    "(fun x : int => (x : any)) 1": (1, 2), "((fun x : int => x) 1 : any)": (1, 2),
    "1 + (fun x : int => (x : any)) 1": (2, 2), "(1 + (fun x : int => x) 1 : any)": (2, 2),
    "(1 + (fun x : int => (x : any)) 1 : any)": (2, 4), "((fun x : int => (x : any)) 1 : int)": (1, 2),
    "(fun x : int => 1 + (fun y : int => y) x) 1": (2, 0), "1 + (fun x : int => 1 + (fun y : int => y) x) 1": (3, 0),
    "1 + (fun x : int => (fun y : int => y) x) 1": (2, 0),
    "let f = fun x : int => x in f (f (f 1))": (2, 0), "let f = fun x : int => x in f (f (f 1)) + 1": (2, 0),
    "let f = fun x : int => x in f 1 + (fun x : int => 1 + f x) 1": (3, 0),
    "let f = fun x : int => (x : any) in f 1 + (1 + (f 1 + (fun x : int => (1 + f x : any)) 1))": (3, 4),
    "((fun x => x) : int -> int) 1": (1, 2), "1 + ((fun x => x) : int -> int) 1": (2, 2),
    "(((fun x => x) : int -> int) 1 : any)": (1, 3), "(1 + ((fun x => x) : int -> int) 1 : any)": (2, 4),
    "((fun x => x) : int -> int)": (1, 5), "let f = ((fun x => x) : int -> int) in f": (1, 0),
}


class Ru4Room(unittest.TestCase):
    def test_room(self):
        for text, expected in ROOMS.items():
            self.assertEqual(room(text), expected, text)

    def test_loops_in_tail_places(self):
        for text in TAIL_LOOPS:
            first = room(text.replace("{}", "3"))
            for rounds in (4, 5, 50, 400):
                prints, end, found = run_room(rows_of(text.replace("{}", str(rounds))), 10 ** 6)
                self.assertEqual(found, first, text)
                self.assertEqual(end[0], "value")

    def test_loops_that_open_no_call(self):
        for text in TAIL_LOOPS[:4]:
            for rounds in ("3", "100"):
                self.assertEqual(room(text.replace("{}", rounds), 999)[0], 1, text)

    def test_nested_calls(self):
        for rounds in (1, 3, 10, 200):
            text = f"(rec h (n : int) : int => if n < 1 then 0 else 1 + h (n - 1)) {rounds}"
            self.assertEqual(room(text, 999), (rounds + 1, 0))
            self.assertEqual(room(f"1 + {text}", 999), (rounds + 2, 0))
            text = f"(rec h (n : int) : any => if n < 1 then 0 else 1 + (h (n - 1) : int)) {rounds}"
            self.assertEqual(room(text, 999), (rounds + 1, 2 * (rounds + 1)))
            text = f"(rec h (n : int) : int => if n < 1 then 0 else 1 + (h (n - 1) : any)) {rounds}"
            self.assertEqual(room(text, 999), (rounds + 1, 0))

    def test_runs_that_end_with_blame_or_for_their_calls(self):
        self.assertEqual(run_room(rows_of("((1 : any) : bool)"), 0), ((), blame(1, 1), (1, 2)))
        text = "(rec h (n : int) : any => if n < 1 then (true : any) else 1 + h (n - 1)) 5"
        self.assertEqual(run_room(rows_of(text), 99), ((), blame(6, 1), (6, 13)))
        text = "(rec h (n : int) : any => 1 + (h n : int)) 0"
        for calls in (1, 2, 7):
            self.assertEqual(run_room(rows_of(text), calls), ((), ("calls",), (calls + 1, 2 * calls)))

    def test_the_room_of_the_meaning(self):
        for text, calls, _, _ in ALL:
            core = core_of(text)
            for allowed in range(calls + 2):
                expected = Rooms(allowed).measured(core)
                self.assertEqual(run_room(compile_core(core), allowed), expected, (text, allowed))

    def test_the_room_of_random_programs(self):
        for expression in random_samples(250):
            core, _ = elaborate(expression)
            for calls in (0, 1, 4, 40):
                self.assertEqual(run_room(compile_core(core), calls), Rooms(calls).measured(core), expression)

    def test_no_check_is_higher_than_the_highest_of_the_rows(self):
        for expression in random_samples(150):
            rows = compile_core(elaborate(expression)[0])
            heights = [check_height(row[1]) for row in rows if row[0] in ("check", "join")]
            _, _, (open_calls, cells) = run_room(rows, 40)
            self.assertLessEqual(cells, open_calls * (3 * 2 ** max(heights, default=0) - 3))


if __name__ == "__main__":
    unittest.main()
