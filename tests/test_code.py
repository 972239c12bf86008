"""Code: points CD1 and CD2, and what the interface says of is_code."""

import copy
import itertools
import unittest

from halfnoted.check import elaborate
from halfnoted.checks import check_of
from halfnoted.code import compile_core, is_code
from halfnoted.reader import read
from samples import FORMS, LOOPS, NAMES, NUMBERS, ORDER, WRAPPED, through_any
from trees import ANY, BOOL, INT, fun
from typed import random_samples

ALL = FORMS + NUMBERS + ORDER + NAMES + LOOPS + WRAPPED + through_any()
GIVE, I = ("give", ("same", "int")), ("same", "int")
RETURN, CALL, TAIL, BIND, UNBIND, PRINT = ("return",), ("call",), ("tail",), ("bind",), ("unbind",), ("print",)
PLUS = ("op", "+")


def compiled(text):
    return compile_core(elaborate(read(text))[0])


def num(n):
    return ("int", n)


def load(k):
    return ("load", k)


def take(number, check=I):
    return ("take", "int", (number, 1), check)


class Cases(unittest.TestCase):
    def check(self, expected):
        for text, rows in expected.items():
            found = compiled(text)
            self.assertEqual(found, rows, text)
            self.assertIs(type(found), list)
            self.assertEqual([type(row) for row in found], [tuple] * len(rows))


class Cd1Rows(Cases):
    def test_values(self):
        self.check({
            "1": [num(1), RETURN], "2147483647": [num(2 ** 31 - 1), RETURN], "true": [("flag", True), RETURN],
            "false": [("flag", False), RETURN], "unit": [("unit",), RETURN],
            "fun x => x": [("close", 2, False), RETURN, load(0), RETURN],
            "rec h (x : int) : int => x": [("close", 2, True), RETURN, load(0), RETURN],
        })

    def test_the_kinds_of_what_stands_in_rows(self):
        self.assertIs(compiled("true")[0][1], True)
        self.assertIs(compiled("false")[0][1], False)
        self.assertIs(compiled("fun x => x")[0][2], False)
        self.assertIs(compiled("rec h (x : int) : int => x")[0][2], True)
        for text in ("1", "let x = 0 in x", "if true then 0 else 1", "1 + (if true then 0 else 1)", "fun x => x"):
            for row in compiled(text):
                if row[0] in ("int", "load", "jump", "unless", "close"):
                    self.assertIs(type(row[1]), int)

    def test_forms_in_a_tail_place(self):
        self.check({
            "(1, 2)": [num(1), num(2), ("pair",), RETURN], "fst (1, 2)": [num(1), num(2), ("pair",), ("fst",), RETURN],
            "snd (1, 2)": [num(1), num(2), ("pair",), ("snd",), RETURN], "box 1": [num(1), ("box",), RETURN],
            "get box 1": [num(1), ("box",), ("get",), RETURN],
            "put (box 1) 2": [num(1), ("box",), num(2), ("put",), RETURN],
            "1 + 2": [num(1), num(2), PLUS, RETURN], "1 - 2": [num(1), num(2), ("op", "-"), RETURN],
            "1 * 2": [num(1), num(2), ("op", "*"), RETURN], "1 < 2": [num(1), num(2), ("op", "<"), RETURN],
            "1 == 2": [num(1), num(2), ("op", "=="), RETURN], "not true": [("flag", True), ("not",), RETURN],
            "let x = 1 in x": [num(1), BIND, load(0), RETURN], "print 1 ; 2": [num(1), PRINT, num(2), RETURN],
            "if true then 1 else 2": [("flag", True), ("unless", 4), num(1), RETURN, num(2), RETURN],
            "(fun x : int => x) 1": [("close", 3, False), num(1), TAIL, load(0), RETURN], "(1 : int)": [num(1), RETURN],
        })

    def test_forms_in_another_place(self):
        self.check({
            "1 + (2 + 3)": [num(1), num(2), num(3), PLUS, PLUS, RETURN],
            "1 + (let x = 2 in x)": [num(1), num(2), BIND, load(0), UNBIND, PLUS, RETURN],
            "1 + (print 2 ; 3)": [num(1), num(2), PRINT, num(3), PLUS, RETURN],
            "1 + (if true then 2 else 3)":
                [num(1), ("flag", True), ("unless", 5), num(2), ("jump", 6), num(3), PLUS, RETURN],
            "1 + (fun x : int => x) 2": [num(1), ("close", 6, False), num(2), CALL, PLUS, RETURN, load(0), RETURN],
            "(fun x : int => x, 1)": [("close", 4, False), num(1), ("pair",), RETURN, load(0), RETURN],
            "(rec h (x : int) : int => x, 1)": [("close", 4, True), num(1), ("pair",), RETURN, load(0), RETURN],
            "not (not true)": [("flag", True), ("not",), ("not",), RETURN],
            "fst ((1, 2), 3)": [num(1), num(2), ("pair",), num(3), ("pair",), ("fst",), RETURN],
        })


class Cd2Compiling(Cases):
    def test_casts_in_a_tail_place(self):
        self.check({
            "(1 : any)": [("join", GIVE), num(1), RETURN],
            "((1 : any) : int)": [("join", take(1)), ("join", GIVE), num(1), RETURN],
            "let x = 1 in (x : any)": [num(1), BIND, ("join", GIVE), load(0), RETURN],
            "print 1 ; (2 : any)": [num(1), PRINT, ("join", GIVE), num(2), RETURN],
            "(print 1 ; 2 : any)": [("join", GIVE), num(1), PRINT, num(2), RETURN],
            "(let x = 1 in x : any)": [("join", GIVE), num(1), BIND, load(0), RETURN],
            "(1 + 2 : any)": [("join", GIVE), num(1), num(2), PLUS, RETURN],
            "(if true then 1 else 2 : any)":
                [("join", GIVE), ("flag", True), ("unless", 5), num(1), RETURN, num(2), RETURN],
            "(fun x : int => (x : any)) 1": [("close", 3, False), num(1), TAIL, ("join", GIVE), load(0), RETURN],
            "((fun x : int => x) 1 : any)": [("join", GIVE), ("close", 4, False), num(1), TAIL, load(0), RETURN],
        })

    def test_the_branches_of_an_if(self):
        bool_take = ("take", "bool", (2, 1), ("same", "bool"))
        self.check({
            "if true then (1 : any) else true": [
                ("flag", True), ("unless", 6), ("join", bool_take), ("join", GIVE), num(1), RETURN,
                ("flag", True), RETURN],
            "1 + (if true then (1 : any) else 2)": [
                num(1), ("flag", True), ("unless", 7), num(1), ("check", GIVE), ("check", take(4)), ("jump", 8), num(2),
                PLUS, RETURN],
        })

    def test_casts_in_another_place(self):
        self.check({
            "((1 : any), 2)": [num(1), ("check", GIVE), num(2), ("pair",), RETURN],
            "(1 : any) + 2": [num(1), ("check", GIVE), ("check", take(1)), num(2), PLUS, RETURN],
            "let x = (1 : any) in x": [num(1), ("check", GIVE), BIND, load(0), RETURN],
            "(fun x => x) 1": [("close", 4, False), num(1), ("check", GIVE), TAIL, load(0), RETURN],
            "((let x = 1 in x : any), 2)":
                [num(1), BIND, load(0), UNBIND, ("check", GIVE), num(2), ("pair",), RETURN],
            "(((fun x : int => x) 1 : any), 2)": [
                ("close", 7, False), num(1), CALL, ("check", GIVE), num(2), ("pair",), RETURN, load(0), RETURN],
        })

    def test_the_side_of_a_check_is_1(self):
        rows = compiled("((fun x : int => x) : any)")
        self.assertEqual(rows[0], ("join", check_of(fun(INT, INT), ANY, number=1, side=1)))
        rows = compiled("(((fun x => x) : int -> bool), 1)")
        self.assertEqual(rows[1], ("check", check_of(fun(ANY, ANY), fun(INT, BOOL), number=2, side=1)))

    def test_parts_of_tail_places(self):
        self.check({
            "let x = (let y = 1 in y) in x": [num(1), BIND, load(0), UNBIND, BIND, load(0), RETURN],
            "let x = 1 in let y = 2 in x": [num(1), BIND, num(2), BIND, load(1), RETURN],
            "print (let x = 1 in x) ; 2": [num(1), BIND, load(0), UNBIND, PRINT, num(2), RETURN],
            "print 1 ; print 2 ; 3": [num(1), PRINT, num(2), PRINT, num(3), RETURN],
            "if (if true then true else false) then 1 else 2": [
                ("flag", True), ("unless", 4), ("flag", True), ("jump", 5), ("flag", False), ("unless", 8), num(1),
                RETURN, num(2), RETURN],
            "if true then if false then 1 else 2 else 3": [
                ("flag", True), ("unless", 8), ("flag", False), ("unless", 6), num(1), RETURN, num(2), RETURN, num(3),
                RETURN],
            "if true then let x = 1 in x else 2": [
                ("flag", True), ("unless", 6), num(1), BIND, load(0), RETURN, num(2), RETURN],
            "1 + (if true then if false then 1 else 2 else 3)": [
                num(1), ("flag", True), ("unless", 9), ("flag", False), ("unless", 7), num(1), ("jump", 8), num(2),
                ("jump", 10), num(3), PLUS, RETURN],
            "1 + (if true then 1 else if false then 2 else 3)": [
                num(1), ("flag", True), ("unless", 5), num(1), ("jump", 10), ("flag", False), ("unless", 9), num(2),
                ("jump", 10), num(3), PLUS, RETURN],
            "let f = fun x : int => x in f (f 1)": [
                ("close", 7, False), BIND, load(0), load(0), num(1), CALL, TAIL, load(0), RETURN],
            "let f = fun x : int => x in if true then f 1 else f 2": [
                ("close", 10, False), BIND, ("flag", True), ("unless", 7), load(0), num(1), TAIL, load(0), num(2), TAIL,
                load(0), RETURN],
            "let f = fun x : int => x in print f 1 ; f 2": [
                ("close", 9, False), BIND, load(0), num(1), CALL, PRINT, load(0), num(2), TAIL, load(0), RETURN],
        })

    def test_functions_inside_functions(self):
        self.check({
            "(fun x : int => fun y : int => x) 1": [
                ("close", 3, False), num(1), TAIL, ("close", 5, False), RETURN, load(1), RETURN],
            "(fun x : int => fun y : int => x, fun z : int => fun w : int => w)": [
                ("close", 4, False), ("close", 6, False), ("pair",), RETURN, ("close", 8, False), RETURN,
                ("close", 10, False), RETURN, load(1), RETURN, load(0), RETURN],
            "fun a => (fun b => fun c => (a, (b, c)), fun d => d)": [
                ("close", 2, False), RETURN, ("close", 6, False), ("close", 8, False), ("pair",), RETURN,
                ("close", 10, False), RETURN, load(0), RETURN, load(2), load(1), load(0), ("pair",), ("pair",), RETURN],
            "if true then fun x : int => 1 else fun x : int => 2": [
                ("flag", True), ("unless", 4), ("close", 6, False), RETURN, ("close", 8, False), RETURN, num(1), RETURN,
                num(2), RETURN],
        })

    def test_rec(self):
        self.check({
            "rec h (x : int) : int => h x": [("close", 2, True), RETURN, load(1), load(0), TAIL],
            "rec x (x : int) : int => x": [("close", 2, True), RETURN, load(0), RETURN],
            "let y = 1 in rec h (x : int) : int => h (x + y)": [
                num(1), BIND, ("close", 4, True), RETURN, load(1), load(0), load(2), PLUS, TAIL],
            "let y = 1 in rec x (x : int) : int => y": [num(1), BIND, ("close", 4, True), RETURN, load(2), RETURN],
            "rec h (x : int) : int -> int => rec g (y : int) : int => h x (g y)": [
                ("close", 2, True), RETURN, ("close", 4, True), RETURN,
                load(3), load(2), CALL, load(1), load(0), CALL, TAIL],
        })

    def test_the_numbers_of_load(self):
        self.check({
            "let x = 1 in let y = 2 in let z = 3 in (x, (y, z))": [
                num(1), BIND, num(2), BIND, num(3), BIND, load(2), load(1), load(0), ("pair",), ("pair",), RETURN],
            "let x = 1 in (let y = x in y) + x": [
                num(1), BIND, load(0), BIND, load(0), UNBIND, load(0), PLUS, RETURN],
            "let x = 1 in (let x = 2 in x) + x": [
                num(1), BIND, num(2), BIND, load(0), UNBIND, load(0), PLUS, RETURN],
            "let x = 1 in x + (let y = 2 in x + y)": [
                num(1), BIND, load(0), num(2), BIND, load(1), load(0), PLUS, UNBIND, PLUS, RETURN],
            "let x = 1 in let x = x in x": [num(1), BIND, load(0), BIND, load(0), RETURN],
            "let x = 1 in fun y : int => (x, y)": [
                num(1), BIND, ("close", 4, False), RETURN, load(1), load(0), ("pair",), RETURN],
            "let x = 1 in fun x : int => x": [num(1), BIND, ("close", 4, False), RETURN, load(0), RETURN],
            "(let x = 1 in fun y : int => x, let z = 2 in fun y : int => z)": [
                num(1), BIND, ("close", 10, False), UNBIND, num(2), BIND, ("close", 12, False), UNBIND, ("pair",),
                RETURN, load(1), RETURN, load(1), RETURN],
            "fun f : int -> int => let x = f 1 in f x": [
                ("close", 2, False), RETURN, load(0), num(1), CALL, BIND, load(1), load(0), TAIL],
        })

    def test_the_core_is_as_it_was(self):
        for text, _, _, _ in ALL:
            core = elaborate(read(text))[0]
            before = repr(core)
            self.assertEqual(compile_core(core), compile_core(core))
            self.assertIsNot(compile_core(core), compile_core(core))
            self.assertEqual(repr(core), before)


# One list of rows with each form of row.
FORM_ROWS = [
    num(0), num(7), ("flag", True), ("flag", False), ("unit",), load(0), load(3), ("close", 0, True),
    ("close", 25, False), CALL, BIND, UNBIND, ("jump", 0), ("jump", 25), ("unless", 5), ("pair",), ("fst",), ("snd",),
    ("box",), ("get",), ("put",), PLUS, ("not",), PRINT, ("check", GIVE), ("join", ("fun", I, take(3)))]
JUNK = (None, True, False, -1, 26, 100, "", "int", "return", (), [], [1], (1,), ("any",), (("any",),), ["any"])


class IsCode(unittest.TestCase):
    def expect(self, value, expected):
        before = copy.deepcopy(value)
        self.assertIs(is_code(value), expected, value)
        self.assertEqual(repr(value), repr(before))

    def test_compiled_rows(self):
        for text, _, _, _ in ALL:
            self.expect(compiled(text), True)
        for expression in random_samples(60):
            self.expect(compile_core(elaborate(expression)[0]), True)

    def test_each_form_of_row(self):
        self.assertEqual(len(FORM_ROWS), 26)
        self.expect(FORM_ROWS[:-1] + [RETURN], True)
        self.expect(FORM_ROWS[:-1] + [TAIL], True)
        for row in FORM_ROWS:
            self.expect([row] + [CALL] * 24 + [RETURN], True)
        for sign in ("+", "-", "*", "<", "=="):
            self.expect([("op", sign), RETURN], True)

    def test_other_values(self):
        for value in (None, True, False, 0, 1, "", "return", (), (RETURN,), [()], [[]], [None], [True], ["return"],
                      [("return",), "return"], [RETURN, None], [RETURN, []], ["return", RETURN], [[RETURN]], RETURN,
                      {}, [{}], [{"return": 1}], [("return",), ()], (("int", 1), ("return",))):
            self.expect(value, False)

    def test_a_list_without_rows(self):
        self.expect([], False)

    def test_the_last_row(self):
        for row in FORM_ROWS:
            self.expect([RETURN] * 25 + [row], False)
        self.expect([RETURN], True)
        self.expect([TAIL], True)
        self.expect([RETURN, TAIL, RETURN], True)

    def test_rows_that_are_lists(self):
        for row in FORM_ROWS + [RETURN, TAIL]:
            self.expect([list(row)] + [RETURN] * 25, False)
            self.expect([RETURN] * 25 + [list(row)], False)

    def test_heads(self):
        for head in ("", "num", "name", "fun", "rec", "let", "if", "as", "cast", "Int", "any", None, 1, True, ("int",),
                     [], ["int"], {}):
            for row in ((head,), (head, 1), (head, 0, True), (head, "+"), (head, GIVE), (head, True)):
                self.expect([row] + [RETURN] * 25, False)
                self.expect([RETURN] * 25 + [row], False)

    def test_parts_left_out_and_doubled(self):
        for row in FORM_ROWS + [RETURN, TAIL]:
            for at in range(len(row)):
                self.expect([row[:at] + row[at + 1:]] + [RETURN] * 25, False)
                self.expect([row[:at + 1] + row[at:]] + [RETURN] * 25, False)
            for more in (None, 0, True, (), GIVE, "+"):
                self.expect([row + (more,)] + [RETURN] * 25, False)
                self.expect([RETURN] * 25 + [row + (more,)], False)

    def test_other_values_in_the_place_of_parts(self):
        may = {"int": (26, 100), "load": (26, 100), "flag": (True, False)}
        for row, junk in itertools.product(FORM_ROWS, JUNK):
            for at in range(1, len(row)):
                flag = row[0] == "flag" or row[0] == "close" and at == 2
                check = row[0] in ("check", "join") and junk == ("any",)
                allowed = isinstance(junk, bool) if flag else junk in may.get(row[0], ()) and not isinstance(junk, bool)
                self.expect([row[:at] + (junk,) + row[at + 1:]] + [RETURN] * 25, allowed or check)

    def test_row_numbers(self):
        for many in (1, 2, 5):
            rest = [RETURN] * (many - 1)
            for at in range(-2, many + 3):
                fits = 0 <= at < many
                for row in (("jump", at), ("unless", at), ("close", at, True), ("close", at, False)):
                    self.expect([row] + rest, fits and many > 1)
        for at in (True, False, None, "0", (0,), [0], -2 ** 40, 2 ** 40):
            for row in (("jump", at), ("unless", at), ("close", at, True)):
                self.expect([row, RETURN, RETURN], False)

    def test_integers(self):
        for head in ("int", "load"):
            for number in (0, 1, 2 ** 31 - 1, 2 ** 31, 10 ** 40):
                self.expect([(head, number), RETURN], True)
            for number in (-1, -2 ** 31, True, False, None, "1", (1,), [1]):
                self.expect([(head, number), RETURN], False)

    def test_flags(self):
        for flag in (True, False):
            self.expect([("flag", flag), RETURN], True)
            self.expect([("close", 1, flag), RETURN], True)
        for flag in (0, 1, None, "True", (), (True,), [True]):
            self.expect([("flag", flag), RETURN], False)
            self.expect([("close", 1, flag), RETURN], False)

    def test_operators(self):
        for sign in ("", "/", "=", "=>", "->", "+ ", "not", None, True, 1, ("+",), ["+"], {}, ","):
            self.expect([("op", sign), RETURN], False)

    def test_checks(self):
        for head in ("check", "join"):
            for check in (("any",), I, GIVE, take(0), ("fail", "int", (0, 1), "box"), ("pair", I, ("any",))):
                self.expect([(head, check), RETURN], True)
            for check in (None, "any", (), ["any"], ("give", ("any",)), ("take", "int", (0, 2), I), I + I, (I,), True,
                          ("fail", "int", (0, 1), "int"), ("take", "bool", (0, 1), I), ("take", "int", (True, 1), I)):
                self.expect([(head, check), RETURN], False)
                self.expect([RETURN, (head, check), RETURN], False)


if __name__ == "__main__":
    unittest.main()
