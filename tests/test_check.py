"""Elaboration: points CK1 to CK4, and the list of casts."""

import itertools
import random
import unittest

from core_types import CoreTypes
from halfnoted.check import casts, elaborate
from halfnoted.programs import annotations, erased, is_exact, numbered, parts, with_annotations
from halfnoted.reader import read, read_type
from halfnoted.types import consistent, less_exact, meeting
from support import fault
from trees import ANY, BOOL, INT, UNIT, X, Y, all_types, depth, fun, random_expression, random_type, weakened
from typed import typed


def mismatched(number):
    return ("Mismatched", {"number": number})


def unknown(name):
    return ("Unknown", {"name": name})


def bound(text, **names):
    """The function that takes values of these types under these names, and gives what the text gives."""
    for name, given in reversed(list(names.items())):
        text = f"fun {name} : {given} => {text}"
    return read(text)


def random_function(chance, given):
    """A function of two arguments, of which the second has this type; what is in it need not have a type."""
    body = random_expression(chance, 4, ("x", "f"))
    return ("fun", "f", random_type(chance, 3), ("fun", "x", given, body))


# What stands in the forms beside their parts: names, numbers, flags, signs and annotations.
HEADS = {"num": (1,), "flag": (1,), "name": (1,), "fun": (1, 2), "rec": (1, 2, 3, 4), "let": (1,), "op": (1,)}


def core_parts(core):
    """The parts of a core expression that is no cast."""
    return [core[at] for at in range(1, len(core)) if at not in HEADS.get(core[0], ())]


class Cases(unittest.TestCase):
    def check_form(self, source, number, core):
        """The core has the forms of the source, without as, and at most one cast with its number at each expression.

        Returns the number behind those of the source.
        """
        if core[0] == "cast" and core[1] == number:
            self.assertIs(type(core), tuple)
            self.assertEqual(len(core), 5)
            self.assertIs(type(core[1]), int)
            core = core[4]
        if source[0] == "as":
            return self.check_form(source[1], number + 1, core)
        self.assertEqual((core[0], len(core)), (source[0], len(source)), number)
        for at in HEADS.get(source[0], ()):
            self.assertEqual(core[at], source[at])
        numbers = [number + 1]
        for part, one in zip(parts(source), core_parts(core)):
            numbers.append(self.check_form(part, numbers[-1], one))
        if source[0] == "if":
            self.check_branches(core, numbers)
        return numbers[-1]

    def check_branches(self, core, numbers):
        """The branches are cast to nothing but the meeting type of their types."""
        before = [one[2] for number, one in zip(numbers[1:], core[2:]) if one[0] == "cast" and one[1] == number]
        after = [one[3] for number, one in zip(numbers[1:], core[2:]) if one[0] == "cast" and one[1] == number]
        if after:
            self.assertEqual(meeting(*(before + after)[:2]), after[-1])

    def check_core(self, expression):
        """Elaborates, checks the core expression, and returns it and its type."""
        result = elaborate(expression)
        self.assertIs(type(result), tuple)
        core, given = result
        self.assertEqual(self.check_form(expression, 0, core), len(numbered(expression)))
        self.assertEqual(CoreTypes(self).of(core, {}), given)
        numbers = [number for number, _, _ in casts(core)]
        self.assertEqual(len(numbers), len(set(numbers)))
        self.assertEqual(elaborate(expression), result)
        return result

    def check(self, expression, given, *expected):
        """An expression has this type and these casts: texts like "3: any to int"."""
        if isinstance(expression, str):
            expression = read(expression)
        core, found = self.check_core(expression)
        self.assertEqual(found, read_type(given), expression)
        wanted = []
        for text in expected:
            number, rest = text.split(": ")
            source, target = rest.split(" to ")
            wanted.append((int(number), read_type(source), read_type(target)))
        self.assertEqual(casts(core), wanted, expression)

    def refuses(self, cases):
        for text, expected in cases.items():
            self.assertEqual(fault(elaborate, read(text)), expected, text)


class Ck2Leaves(Cases):
    def test_constants(self):
        self.check("0", "int")
        self.check("2147483647", "int")
        self.check("true", "bool")
        self.check("false", "bool")
        self.check("unit", "unit")
        for text in ("7", "true", "unit"):
            self.assertEqual(elaborate(read(text))[0], read(text))

    def test_names(self):
        for given in all_types(2):
            self.assertEqual(elaborate(("fun", "x", given, X)), (("fun", "x", given, X), fun(given, given)))
            self.assertEqual(elaborate(("fun", "x", given, ("fun", "y", INT, X)))[1], fun(given, fun(INT, given)))

    def test_names_that_are_not_bound(self):
        self.refuses({
            "x": unknown("x"), "f 1": unknown("f"), "fun x => y": unknown("y"), "(fun x => x) x": unknown("x"),
            "let x = x in x": unknown("x"), "(let x = 1 in x) + x": unknown("x"),
            "rec h (x : int) : int => y": unknown("y"),
            "h (rec h (x : int) : int => x)": unknown("h"), "(fun x => 1, x)": unknown("x"),
            "(rec h (x : int) : int => x) x": unknown("x"), "(rec h (x : int) : int => x) (h 1)": unknown("h"),
            "fun x => let y = y in x": unknown("y"), "(x : int)": unknown("x"),
            "aaaaaaaaaaaaaaaaaaaa": unknown("a" * 20),
        })


class Ck2Calls(Cases):
    def test_a_function(self):
        self.check("(fun x : int => x) 1", "int")
        self.check("(fun x : int => true) 1", "bool")
        self.check("(fun x => x) 1", "any", "3: int to any")
        self.check("(fun x : int => x) (1 : any)", "int", "3: any to int", "4: int to any")
        self.check("(fun x : int -> any => x) (fun y => 1)", "int -> any", "3: any -> int to int -> any")
        self.check("(fun x : (any, int) => x) (1, (2 : any))", "(any, int)", "3: (int, any) to (any, int)",
                   "6: int to any")
        self.check("(fun x : any => x) (1 : any)", "any", "4: int to any")

    def test_a_function_of_type_any(self):
        self.check("fun f => f 1", "any -> any", "2: any to any -> any", "3: int to any")
        self.check("fun f => f f", "any -> any", "2: any to any -> any")
        self.check("fun f => fun x : int -> int => f x", "any -> (int -> int) -> any", "3: any to any -> any",
                   "4: int -> int to any")
        self.check("fun f => f 1 true", "any -> any", "2: any to any -> any", "3: any to any -> any", "4: int to any",
                   "5: bool to any")
        core, _ = elaborate(read("fun f => f 1"))
        self.assertEqual(core, ("fun", "f", ANY, ("call", ("cast", 2, ANY, fun(ANY, ANY), ("name", "f")),
                                                  ("cast", 3, INT, ANY, ("num", 1)))))

    def test_what_is_called_is_not_cast_otherwise(self):
        self.check(bound("f 1", f="any -> int"), "(any -> int) -> int", "3: int to any")
        self.check(bound("f (1 : any)", f="any -> any"), "(any -> any) -> any", "4: int to any")
        self.check(bound("f x", f="int -> any", x="int"), "(int -> any) -> int -> any")

    def test_refusals(self):
        self.refuses({
            "1 2": mismatched(1), "true 2": mismatched(1), "unit unit": mismatched(1), "(1, 2) 1": mismatched(1),
            "box 1": None, "(box 1) 1": mismatched(1), "(fun x : int => x) true": mismatched(3),
            "(fun x : int -> int => x) 1": mismatched(3), "(fun x : int => x) 1 2": mismatched(1),
            "(fun x : (int, any) => x) (true, 1)": mismatched(3),
            "(fun x : int => x) (fun y : int => y)": mismatched(3),
            "(fun x : any -> int => x) (fun y => true)": mismatched(3), "((1 : int) : int) 1": mismatched(1),
            "let f = 1 in f 2": mismatched(3),
        })


class Ck2Functions(Cases):
    def test_fun(self):
        self.check("fun x : int => x", "int -> int")
        self.check("fun x => x", "any -> any")
        self.check("fun x => 1", "any -> int")
        self.check("fun x : bool => (x, 1)", "bool -> (bool, int)")
        self.check("fun x : int => fun y : bool => x", "int -> bool -> int")
        self.check("fun x => x + 1", "any -> int", "2: any to int")

    def test_rec(self):
        self.check("rec h (x : int) : int => x", "int -> int")
        self.check("rec h (x : int) : bool => true", "int -> bool")
        self.check("rec h (x : int) : int => h (x + 1)", "int -> int")
        self.check("rec h (x : int) : int -> bool => h x", "int -> int -> bool")
        self.check("rec h (x : bool) : int -> bool => fun y : int => h x y", "bool -> int -> bool")

    def test_the_body_of_rec_fits_the_result(self):
        self.check("rec h (x : int) : any => x", "int -> any", "1: int to any")
        self.check("rec h (x : any) : int => x", "any -> int", "1: any to int")
        self.check("rec h (x : any) : any => x", "any -> any")
        self.check("rec h (x : any) : any => h x", "any -> any")
        self.check("rec h (x : int) : any -> int => fun y : int => y", "int -> any -> int",
                   "1: int -> int to any -> int")
        self.check("rec h (x : int) : any => h (x : any)", "int -> any", "3: any to int", "4: int to any")
        self.check("(rec h (x : int) : any => if x < 1 then 7 else h (x - 1)) 2", "any", "2: int to any",
                   "7: any to int")
        self.refuses({"rec h (x : int) : bool => x": mismatched(1), "rec h (x : int) : int => h": mismatched(1),
                      "rec h (x : int) : int -> int => h": mismatched(1),
                      "rec h (x : int) : int => h true": mismatched(3),
                      "rec h (x : int) : any -> bool => fun y => 1": mismatched(1)})

    def test_the_function_has_its_type_in_the_body(self):
        self.check("rec h (x : int) : any => (h : int -> any)", "int -> any", "1: int -> any to any")
        self.check("rec h (x : any) : bool => (h : any -> bool) x", "any -> bool")

    def test_rec_with_one_name_twice(self):
        self.check("rec x (x : int) : int => x", "int -> int")
        self.check("rec x (x : int) : bool => x < 1", "int -> bool")
        self.check("rec x (x : int -> bool) : bool => x 1", "(int -> bool) -> bool")
        self.refuses({"rec x (x : int) : int => x 1": mismatched(2)})


class Ck2Names(Cases):
    def test_let(self):
        self.check("let x = 1 in x", "int")
        self.check("let x = 1 in true", "bool")
        self.check("let x = (1 : any) in x", "any", "2: int to any")
        self.check("let x = (1 : any) in x + 1", "int", "2: int to any", "4: any to int")
        self.check("let f = fun x : int => x in f (f 1)", "int")
        self.check("let x = 1 in let x = (x, x) in x", "(int, int)")

    def test_a_name_that_hides_another_one(self):
        self.check("fun x : int => fun x : bool => x", "int -> bool -> bool")
        self.check("let x = 1 in fun x : bool => x", "bool -> bool")
        self.check("fun x : int => let x = true in not x", "int -> bool")
        self.check("let x = true in let x = 1 in x + 1", "int")
        self.check("let h = 1 in rec h (x : int) : int => h x", "int -> int")
        self.check("let x = true in rec h (x : int) : int => x + 1", "int -> int")
        self.refuses({"fun x : int => fun x : bool => x + 1": mismatched(3),
                      "let x = 1 in let x = true in x + 1": mismatched(5)})

    def test_a_name_is_hidden_only_there(self):
        self.check("let x = 1 in ((fun x : bool => x) true, x)", "(bool, int)")
        self.check("let x = 1 in (let x = true in x, x + 1)", "(bool, int)")
        self.check("let x = 1 in (rec x (y : int) : int => x y, x)", "(int -> int, int)")
        self.check("let x = 1 in let y = let x = true in x in (x, y)", "(int, bool)")
        self.check("fun f : int => (rec f (x : int) : bool => f x, f)", "int -> (int -> bool, int)")


class Ck2Branches(Cases):
    def test_equal_types(self):
        self.check("if true then 1 else 2", "int")
        self.check("if true then fun x => x else fun y => y", "any -> any")

    def test_the_condition(self):
        self.check("if (true : any) then 1 else 2", "int", "1: any to bool", "2: bool to any")
        self.check("fun x => if x then 1 else 2", "any -> int", "2: any to bool")
        self.refuses({"if 1 then 1 else 2": mismatched(1), "if unit then 1 else 2": mismatched(1),
                      "if (true, true) then 1 else 2": mismatched(1)})

    def test_the_meeting_type(self):
        self.check("if true then 1 else (2 : any)", "int", "3: any to int", "4: int to any")
        self.check("if true then (1 : any) else 2", "int", "2: any to int", "3: int to any")
        self.check("if true then (1 : any) else (2 : any)", "any", "3: int to any", "5: int to any")
        self.check(bound("if true then x else y", x="int -> any", y="any -> bool"),
                   "(int -> any) -> (any -> bool) -> int -> bool", "4: int -> any to int -> bool",
                   "5: any -> bool to int -> bool")
        self.check(bound("if true then x else y", x="(int, any)", y="any"),
                   "(int, any) -> any -> (int, any)", "5: any to (int, any)")
        self.check(bound("if true then x else y", x="box any", y="box int"), "box any -> box int -> box int",
                   "4: box any to box int")

    def test_branches_that_are_not_consistent(self):
        self.refuses({"if true then 1 else true": mismatched(3), "if true then 1 + 1 else unit": mismatched(5),
                      "if true then fun x : int => x else fun x : bool => 1": mismatched(4),
                      "if true then (1, 2) else (1, true)": mismatched(5),
                      "if true then box 1 else box true": mismatched(4)})


class Ck2Pairs(Cases):
    def test_pairs(self):
        self.check("(1, true)", "(int, bool)")
        self.check("((1 : any), (2, unit))", "(any, (int, unit))", "2: int to any")

    def test_halves(self):
        self.check("fst (1, true)", "int")
        self.check("snd (1, true)", "bool")
        self.check("fun x => fst x", "any -> any", "2: any to (any, any)")
        self.check("fun x => snd x", "any -> any", "2: any to (any, any)")
        self.check(bound("fst x", x="(any, int)"), "(any, int) -> any")
        self.check(bound("snd x", x="(any, int)"), "(any, int) -> int")
        self.check("fun x => fst snd x", "any -> any", "2: any to (any, any)", "3: any to (any, any)")
        self.refuses({"fst 1": mismatched(1), "snd true": mismatched(1), "fst box 1": mismatched(1),
                      "snd (fun x => x)": mismatched(1), "fst fst (1, 2)": mismatched(1), "snd unit": mismatched(1)})


class Ck2Boxes(Cases):
    def test_box(self):
        self.check("box 1", "box int")
        self.check("box (1 : any)", "box any", "2: int to any")
        self.check("box box true", "box box bool")

    def test_get(self):
        self.check("get box 1", "int")
        self.check("fun x => get x", "any -> any", "2: any to box any")
        self.check(bound("get x", x="box any"), "box any -> any")
        self.check(bound("get get x", x="box box bool"), "box box bool -> bool")
        self.refuses({"get 1": mismatched(1), "get (1, 2)": mismatched(1), "get (fun x => x)": mismatched(1),
                      "get get box 1": mismatched(1), "get unit": mismatched(1)})

    def test_put(self):
        self.check("put (box 1) 2", "unit")
        self.check("put (box 1) (2 : any)", "unit", "3: any to int", "4: int to any")
        self.check("put (box (1 : any)) 2", "unit", "3: int to any", "4: int to any")
        self.check("fun x => put x 1", "any -> unit", "2: any to box any", "3: int to any")
        self.check("fun x => put x x", "any -> unit", "2: any to box any")
        self.check("fun x => fun y : box int => put x y", "any -> box int -> unit",
                   "3: any to box any", "4: box int to any")
        self.check(bound("put x y", x="box (int -> any)", y="any -> int"), "box (int -> any) -> (any -> int) -> unit",
                   "4: any -> int to int -> any")
        self.refuses({"put 1 2": mismatched(1), "put (1, 2) 1": mismatched(1), "put (fun x => x) 1": mismatched(1),
                      "put (box 1) true": mismatched(3), "put (box (1, 2)) 1": mismatched(5)})


class Ck2Signs(Cases):
    def test_numbers(self):
        for sign, given in (("+", "int"), ("-", "int"), ("*", "int"), ("<", "bool"), ("==", "bool")):
            self.check(f"1 {sign} 2", given)
            self.check(f"fun x => x {sign} x", f"any -> {given}", "2: any to int", "3: any to int")
            self.check(f"fun x => x {sign} 1", f"any -> {given}", "2: any to int")
            self.check(f"fun x => 1 {sign} x", f"any -> {given}", "3: any to int")
            for wrong in ("true", "unit", "(1, 2)", "(fun x => x)", "(box 1)"):
                self.refuses({f"{wrong} {sign} 1": mismatched(1), f"1 {sign} {wrong}": mismatched(2)})

    def test_not(self):
        self.check("not true", "bool")
        self.check("not not (1 < 2)", "bool")
        self.check("fun x => not x", "any -> bool", "2: any to bool")
        self.refuses({"not 1": mismatched(1), "not unit": mismatched(1), "not not 1": mismatched(2)})

    def test_print(self):
        self.check("print 1 ; true", "bool")
        self.check("print 1 ; (true : any)", "any", "3: bool to any")
        self.check("fun x => print x ; x", "any -> any", "2: any to int")
        self.refuses({"print true ; 1": mismatched(1), "print (1, 2) ; 1": mismatched(1),
                      "print (print 1 ; unit) ; 1": mismatched(1)})


class Ck2Annotations(Cases):
    def test_as_leaves_no_form_of_its_own(self):
        self.assertEqual(elaborate(read("(1 : int)")), (("num", 1), INT))
        self.assertEqual(elaborate(read("((1 : int) : int)")), (("num", 1), INT))
        self.assertEqual(elaborate(read("(1 : any)")), (("cast", 1, INT, ANY, ("num", 1)), ANY))
        self.assertEqual(elaborate(read("(((1 : int) : any) : any)")), (("cast", 2, INT, ANY, ("num", 1)), ANY))
        self.assertEqual(elaborate(read("((1 : any) : int)")),
                         (("cast", 1, ANY, INT, ("cast", 2, INT, ANY, ("num", 1))), INT))

    def test_numbers_of_casts(self):
        self.check("((1 : int) : any)", "any", "1: int to any")
        self.check("((1 : any) : any)", "any", "2: int to any")
        self.check("(((1 : any) : int) : any)", "any", "1: int to any", "2: any to int", "3: int to any")
        self.check("(fun x : int => x) ((true : any) : any)", "int", "3: any to int", "5: bool to any")

    def test_types(self):
        self.check("(fun x => x : int -> int)", "int -> int", "1: any -> any to int -> int")
        self.check("((1, (true : any)) : (any, bool))", "(any, bool)", "1: (int, any) to (any, bool)", "4: bool to any")
        self.check("(box 1 : box any)", "box any", "1: box int to box any")

    def test_types_that_are_not_consistent(self):
        self.refuses({"(1 : bool)": mismatched(1), "((1 : int) : bool)": mismatched(1),
                      "(fun x : int => x : bool -> any)": mismatched(1), "(box 1 : box bool)": mismatched(1),
                      "((1, 2) : (int, unit))": mismatched(1),
                      "1 + (2 : bool)": mismatched(3), "(true : int) + 1": mismatched(2)})

    def test_all_small_types(self):
        for source, target in itertools.product(all_types(2), repeat=2):
            expression = ("fun", "x", source, ("as", X, target))
            if not consistent(source, target):
                self.assertEqual(fault(elaborate, expression), mismatched(2))
                continue
            core = X if source == target else ("cast", 2, source, target, X)
            self.assertEqual(elaborate(expression), (("fun", "x", source, core), fun(source, target)))


class Ck3Order(Cases):
    def test_the_parts_come_first_from_left_to_right(self):
        for text in ("{} {}", "({}, {})", "put ({}) ({})", "{} + {}", "{} - {}", "{} * {}", "{} < {}", "{} == {}",
                     "print {} ; {}", "let x = {} in {}"):
            self.refuses({text.format("(y)", "(z)"): unknown("y"), text.format("(not 1)", "(z)"): mismatched(2),
                          text.format("(z)", "(not 1)"): unknown("z"), text.format("(1)", "(z)"): unknown("z")})
        self.refuses({"if y then z else w": unknown("y"), "if 1 then z else w": unknown("z"),
                      "if 1 then 2 else w": unknown("w"),
                      "if not 1 then z else w": mismatched(2), "if 1 then not 1 else w": mismatched(3)})

    def test_the_parts_come_before_the_conditions_of_the_rule(self):
        self.refuses({
            "1 x": unknown("x"), "1 (not 1)": mismatched(3), "true + x": unknown("x"), "true + not 1": mismatched(3),
            "put 1 x": unknown("x"), "put 1 (1 + true)": mismatched(4), "print true ; x": unknown("x"),
            "print true ; not 1": mismatched(3), "if 1 then 2 else not 1": mismatched(4), "not (1 + x)": unknown("x"),
            "fst (1 2)": mismatched(2), "get (1 2)": mismatched(2), "box (1 2)": mismatched(2),
            "(x : bool)": unknown("x"),
            "(1 2 : bool)": mismatched(2), "rec h (x : int) : bool => not 1": mismatched(2),
            "(fun x : int => x) (1 + true)": mismatched(5), "fun x : int => 1 2": mismatched(2),
        })

    def test_the_conditions_come_in_their_order(self):
        self.refuses({
            "true + true": mismatched(1), "unit < true": mismatched(1), "put 1 true": mismatched(1),
            "put (fun x => x) unit": mismatched(1), "if 1 then 2 else true": mismatched(1),
            "if 1 then (2 : any) else true": mismatched(1), "1 true": mismatched(1),
            "if (1, 2) then 2 else true": mismatched(1), "print unit ; (true : any)": mismatched(1),
            "if (true : any) then 2 else true": mismatched(4),
        })

    def test_outer_faults_come_after_inner_ones(self):
        self.refuses({"(1 + (2 + true)) + true": mismatched(5), "true + (1 + true)": mismatched(4),
                      "(true + 1) + (1 + true)": mismatched(2), "let x = true + 1 in y": mismatched(2),
                      "let x = 1 in x + true": mismatched(4), "(fun x : int => x + true) true": mismatched(4)})

    def test_numbers_go_on_behind_what_is_left_out(self):
        self.refuses({"((1 : any), not 2)": mismatched(4),
                      "(((1 : any) : int), (fun x : int => x, not 2))": mismatched(8)})


class Ck1Core(Cases):
    def test_forms_without_casts_stay_as_they_are(self):
        for text in ("fun x : int => rec h (y : int) : int => if x < y then h (y - x) else y * 2",
                     "let p = (1, box true) in print fst p ; put (snd p) (not get snd p)"):
            self.assertEqual(elaborate(read(text))[0], read(text))

    def test_random_expressions(self):
        elaborated = 0
        for seed in range(6000):
            chance = random.Random(seed)
            expression = random_function(chance, ANY)
            if fault(elaborate, expression) is None:
                elaborated += 1
                self.check_core(expression)
        self.assertGreater(elaborated, 1000)

    def test_deep_expressions(self):
        for text in ("not " * 55 + "(true : any)", "print 1 ; " * 57 + "1", "(fun x => x + 1) 1" + " + 1" * 55,
                     "fun x => " * 56 + "(x + 1)", "let x = (1 : any) in " * 50 + "x", "fst " * 55 + "(1 : any)"):
            self.check_core(read(text))

    def test_casts_at_every_level(self):
        expression = ("flag", True)
        for _ in range(29):
            expression = ("not", ("as", expression, ANY))
        self.assertEqual(depth(expression), 59)
        core, given = self.check_core(expression)
        self.assertEqual(given, BOOL)
        self.assertEqual(casts(core), [one for number in range(1, 59, 2) for one in (
            (number, ANY, BOOL), (number + 1, BOOL, ANY))])


class Ck4Facts(Cases):
    def test_no_casts_without_any(self):
        for seed in range(400):
            program = typed(random.Random(seed), 5, random_type(random.Random(seed), 3, (INT, BOOL, UNIT)), {})
            self.assertTrue(is_exact(program))
            core, _ = self.check_core(program)
            self.assertEqual(casts(core), [])

    def test_the_type_of_an_exact_program(self):
        for seed in range(400):
            given = random_type(random.Random(seed), 3, (INT, BOOL, UNIT))
            self.assertEqual(elaborate(typed(random.Random(seed + 7), 5, given, {}))[1], given)

    def test_less_exact_annotations_of_exact_programs(self):
        for seed in range(400):
            chance = random.Random(seed)
            self.check_less(chance, typed(chance, 5, random_type(chance, 3, (INT, BOOL, UNIT)), {}))

    def test_less_exact_annotations_of_other_programs(self):
        for seed in range(3000):
            chance = random.Random(seed)
            expression = random_function(chance, INT)
            if fault(elaborate, expression) is None:
                self.check_less(chance, expression)

    def check_less(self, chance, program):
        _, given = elaborate(program)
        types = annotations(program)
        for share in (0.1, 0.4, 0.7):
            less = with_annotations(program, [weakened(chance, one, share) for one in types])
            _, found = self.check_core(less)
            self.assertTrue(less_exact(found, given), (program, less))
        for at in range(len(types)):
            less = with_annotations(program, types[:at] + [ANY] + types[at + 1:])
            self.assertTrue(less_exact(elaborate(less)[1], given), (program, less))
        self.assertTrue(less_exact(elaborate(erased(program))[1], given))


class CastsTests(Cases):
    def test_no_casts(self):
        for text in ("1", "x", "fun x : int => x + 1", "let x = (1, 2) in if true then fst x else 3"):
            self.assertEqual(casts(read(text)), [])

    def test_one_cast(self):
        self.assertEqual(casts(("cast", 7, INT, ANY, ("num", 1))), [(7, INT, ANY)])

    def test_an_outer_cast_before_the_casts_inside(self):
        core = ("cast", 1, ANY, INT, ("cast", 2, BOOL, ANY, ("not", ("cast", 9, ANY, BOOL, X))))
        self.assertEqual(casts(core), [(1, ANY, INT), (2, BOOL, ANY), (9, ANY, BOOL)])

    def test_parts_from_left_to_right(self):
        one, two, three = (("cast", number, INT, ANY, Y) for number in (5, 3, 4))
        listed = [(5, INT, ANY), (3, INT, ANY), (4, INT, ANY)]
        for core in (("call", one, two), ("let", "x", one, two), ("pair", one, two), ("put", one, two),
                     ("op", "+", one, two), ("print", one, two)):
            self.assertEqual(casts(core), listed[:2])
            self.assertEqual(casts(("cast", 0, ANY, INT, core)), [(0, ANY, INT)] + listed[:2])
        self.assertEqual(casts(("if", one, two, three)), listed)
        for core in (("fun", "x", INT, one), ("rec", "h", "x", INT, ANY, one), ("fst", one), ("snd", one), ("box", one),
                     ("get", one), ("not", one)):
            self.assertEqual(casts(core), listed[:1])
        nested = ("cast", 8, ANY, INT, ("fst", one))
        self.assertEqual(casts(("pair", nested, two)), [(8, ANY, INT), (5, INT, ANY), (3, INT, ANY)])

    def test_equal_casts_are_all_listed(self):
        one = ("cast", 5, INT, ANY, Y)
        self.assertEqual(casts(("pair", one, one)), [(5, INT, ANY)] * 2)

    def test_the_casts_of_elaborations_come_in_the_order_of_their_numbers(self):
        for seed in range(300):
            program = erased(typed(random.Random(seed), 5, INT, {}))
            numbers = [number for number, _, _ in casts(elaborate(program)[0])]
            self.assertEqual(numbers, sorted(set(numbers)))

    def test_a_new_list_each_time(self):
        core = ("cast", 7, INT, ANY, ("num", 1))
        casts(core).clear()
        self.assertEqual(casts(core), [(7, INT, ANY)])


class Examples(unittest.TestCase):
    def test_the_examples_of_the_interface(self):
        self.assertEqual(
            elaborate(read("(fun x => x + 1) 2")),
            (('call', ('fun', 'x', ('any',), ('op', '+', ('cast', 3, ('any',), ('int',), ('name', 'x')), ('num', 1))),
              ('cast', 5, ('int',), ('any',), ('num', 2))), ('int',)))
        self.assertEqual(casts(elaborate(read("(fun x => x + 1) 2"))[0]),
                         [(3, ('any',), ('int',)), (5, ('int',), ('any',))])
        self.assertEqual(fault(elaborate, read("1 + true")), mismatched(2))


if __name__ == "__main__":
    unittest.main()
