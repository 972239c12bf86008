"""What stands in expressions: points PR1 to PR4."""

import random
import unittest

from halfnoted.programs import annotations, erased, is_exact, is_less_exact, numbered, parts, with_annotations
from halfnoted.reader import read, read_type
from trees import (
    ANY, BOOL, F, FORMS, INT, LEAVES, UNIT, X, Y, Z, around, box, fun, less_exact_types, pair, places,
    random_expression, random_type, weakened)

E = [("num", 1), ("call", F, X), ("flag", True)]
T = [fun(INT, ANY), box(BOOL)]
MAKERS = {name: form[2](E, T) for name, form in FORMS.items()}


def random_expressions(many=150, most=5):
    return [random_expression(random.Random(seed), most) for seed in range(many)]


class Pr1Parts(unittest.TestCase):
    def test_forms_without_parts(self):
        for leaf in LEAVES:
            self.assertEqual(parts(leaf), [])

    def test_each_form(self):
        for name, (many, _, _) in FORMS.items():
            self.assertEqual(parts(MAKERS[name]), E[:many], name)

    def test_forms_that_are_read(self):
        cases = {
            "f x": [F, X], "fun x : int -> bool => y": [Y], "fun x => y": [Y], "rec f (x : int) : box bool => y": [Y],
            "let f = x in y": [X, Y], "if x then y else z": [X, Y, Z], "(x, y)": [X, Y], "fst x": [X], "snd x": [X],
            "box x": [X], "get x": [X], "put x y": [X, Y], "x + y": [X, Y], "x - y": [X, Y], "x * y": [X, Y],
            "x < y": [X, Y], "x == y": [X, Y], "not x": [X], "print x ; y": [X, Y], "(x : int -> bool)": [X],
            "1": [], "true": [], "unit": [], "x": [], "f x + y": [("call", F, X), Y],
        }
        for text, expected in cases.items():
            self.assertEqual(parts(read(text)), expected, text)

    def test_only_what_is_directly_inside(self):
        self.assertEqual(parts(read("not not x")), [("not", X)])
        self.assertEqual(parts(read("(1, (2, 3))")), [("num", 1), ("pair", ("num", 2), ("num", 3))])

    def test_equal_parts(self):
        self.assertEqual(parts(read("(x, x)")), [X, X])
        self.assertEqual(parts(read("if x then x else x")), [X, X, X])

    def test_a_new_list_each_time(self):
        for expression in (read("(x, y)"), X):
            parts(expression).append(Z)
            self.assertNotIn(Z, parts(expression))
            self.assertIs(type(parts(expression)), list)


class Pr1Numbers(unittest.TestCase):
    def check(self, text, *expected):
        self.assertEqual(numbered(read(text)), [read(one) for one in expected], text)

    def test_forms_without_parts(self):
        for leaf in LEAVES:
            self.assertEqual(numbered(leaf), [leaf])

    def test_each_form(self):
        for name, (many, _, _) in FORMS.items():
            inside = [one for part in E[:many] for one in numbered(part)]
            self.assertEqual(numbered(MAKERS[name]), [MAKERS[name]] + inside, name)

    def test_an_expression_comes_before_its_parts(self):
        self.check("f (1 + x)", "f (1 + x)", "f", "1 + x", "1", "x")
        self.check("not not x", "not not x", "not x", "x")
        self.check("fun x : int => rec h (y : int) : int => x", "fun x : int => rec h (y : int) : int => x",
                   "rec h (y : int) : int => x", "x")

    def test_everything_inside_a_part_comes_before_the_next_part(self):
        self.check("(fst x, snd y)", "(fst x, snd y)", "fst x", "x", "snd y", "y")
        self.check("if not x then y + 1 else z", "if not x then y + 1 else z", "not x", "x", "y + 1", "y", "1", "z")
        self.check("let x = f 1 in print x ; (x : int)", "let x = f 1 in print x ; (x : int)", "f 1", "f", "1",
                   "print x ; (x : int)", "x", "(x : int)", "x")
        self.check("f x y", "f x y", "f x", "f", "x", "y")
        self.check("put (box 1) (get y)", "put (box 1) (get y)", "box 1", "1", "get y", "y")
        self.check("1 - 2 * 3 < 4", "1 - 2 * 3 < 4", "1 - 2 * 3", "1", "2 * 3", "2", "3", "4")

    def test_equal_parts_have_numbers_of_their_own(self):
        self.check("((x, x), (x, x))", "((x, x), (x, x))", "(x, x)", "x", "x", "(x, x)", "x", "x")

    def test_random_expressions(self):
        for expression in random_expressions():
            found = numbered(expression)
            self.assertEqual(found[0], expression)
            at = 1
            for part in parts(expression):
                inside = numbered(part)
                self.assertEqual(found[at:at + len(inside)], inside)
                at += len(inside)
            self.assertEqual(at, len(found))

    def test_deep_expressions(self):
        expression = read("not " * 58 + "x")
        self.assertEqual([len(numbered(one)) for one in numbered(expression)], list(range(59, 0, -1)))

    def test_a_new_list_each_time(self):
        expression = read("f (1 + x)")
        numbered(expression).clear()
        self.assertEqual(len(numbered(expression)), 5)


class Pr2Annotations(unittest.TestCase):
    def check(self, text, *expected):
        self.assertEqual(annotations(read(text)), [read_type(one) for one in expected], text)

    def test_each_form(self):
        for name, (_, many, _) in FORMS.items():
            self.assertEqual(annotations(MAKERS[name]), T[:many], name)

    def test_forms_without_annotations(self):
        for leaf in LEAVES:
            self.assertEqual(annotations(leaf), [])
        self.check("if f x then (y, box z) else put x (get y)")

    def test_one_and_two(self):
        self.check("fun x : int => x", "int")
        self.check("fun x => x", "any")
        self.check("rec h (x : int) : bool => x", "int", "bool")
        self.check("(x : int)", "int")

    def test_the_order_is_that_of_the_numbers(self):
        self.check("((x : int) : bool)", "bool", "int")
        self.check("(fun x : int => (x : bool) : unit)", "unit", "int", "bool")
        self.check("rec h (x : int) : bool => rec g (x : unit) : any => fun x : box int => x",
                   "int", "bool", "unit", "any", "box int")
        self.check("((x : int), ((y : bool) : unit))", "int", "unit", "bool")
        self.check("if (x : int) then (y : bool) else (z : unit)", "int", "bool", "unit")
        self.check("let x = fun y : int => y in (x : int -> bool)", "int", "int -> bool")
        self.check("(fun x : int => x) (1 : bool)", "int", "bool")

    def test_annotations_are_whole_types(self):
        self.check("fun x : int -> (bool, box unit) => x", "int -> (bool, box unit)")

    def test_random_expressions(self):
        for expression in random_expressions():
            expected = []
            for one in numbered(expression):
                if one[0] == "fun":
                    expected.append(one[2])
                elif one[0] == "rec":
                    expected.extend([one[3], one[4]])
                elif one[0] == "as":
                    expected.append(one[2])
            self.assertEqual(annotations(expression), expected)

    def test_a_new_list_each_time(self):
        expression = read("(x : int)")
        annotations(expression).append(BOOL)
        self.assertEqual(annotations(expression), [INT])


class Pr2WithAnnotations(unittest.TestCase):
    def check(self, text, types, expected):
        given = [read_type(one) for one in types]
        kept = list(given)
        self.assertEqual(with_annotations(read(text), given), read(expected), text)
        self.assertEqual(given, kept)

    def test_each_form(self):
        new = [pair(UNIT, INT), fun(ANY, ANY)]
        for name, (_, many, make) in FORMS.items():
            self.assertEqual(with_annotations(MAKERS[name], new[:many]), make(E, new), name)

    def test_the_types_stand_in_their_places(self):
        self.check("fun x : int => x", ["bool"], "fun x : bool => x")
        self.check("rec h (x : int) : int => x", ["bool", "unit"], "rec h (x : bool) : unit => x")
        self.check("(x : int)", ["box any"], "(x : box any)")
        self.check("((x : int) : int)", ["bool", "unit"], "((x : unit) : bool)")
        self.check("(rec h (x : int) : int => fun y : int => (y : int)) (z : int)",
                   ["any", "bool", "unit", "box int", "int -> int"],
                   "(rec h (x : any) : bool => fun y : unit => (y : box int)) (z : int -> int)")
        self.check("if (x : int) then (y : int) else (z : int)", ["any", "bool", "unit"],
                   "if (x : any) then (y : bool) else (z : unit)")
        self.check("print (x : int) ; let f = fun x => (x : int) in f", ["any", "bool", "unit"],
                   "print (x : any) ; let f = fun x : bool => (x : unit) in f")

    def test_nothing_else_is_changed(self):
        for leaf in LEAVES:
            self.assertEqual(with_annotations(leaf, []), leaf)
            self.assertIs(type(with_annotations(leaf, [])), tuple)
        self.check("(1 + 2 * x, put (box true) unit)", [], "(1 + 2 * x, put (box true) unit)")

    def test_random_expressions(self):
        for seed, expression in enumerate(random_expressions()):
            types = annotations(expression)
            self.assertEqual(with_annotations(expression, types), expression)
            chance = random.Random(seed)
            other = [random_type(chance, 3) for _ in types]
            changed = with_annotations(expression, other)
            self.assertEqual(annotations(changed), other)
            self.assertEqual(erased(changed), erased(expression))
            self.assertEqual(with_annotations(changed, types), expression)

    def test_the_result_has_tuples_alone(self):
        def check(tree):
            self.assertNotIsInstance(tree, list)
            if isinstance(tree, tuple):
                for inside in tree:
                    check(inside)

        check(with_annotations(read("(fun x : int => (x, 1)) (rec h (x : any) : any => x)"), [INT, BOOL, UNIT]))


class Pr3LessExact(unittest.TestCase):
    def check(self, one, other, expected, back):
        self.assertIs(is_less_exact(read(one), read(other)), expected, (one, other))
        self.assertIs(is_less_exact(read(other), read(one)), back, (other, one))

    def test_equal_expressions(self):
        for leaf in LEAVES:
            self.assertIs(is_less_exact(leaf, tuple(leaf)), True)
        for expression in random_expressions():
            self.assertIs(is_less_exact(expression, tuple(expression)), True)

    def test_one_annotation(self):
        for one, other in (("fun x : any => x", "fun x : int => x"), ("fun x => x", "fun x : int => x"),
                           ("(x : any)", "(x : int)"), ("(x : int -> any)", "(x : int -> bool)"),
                           ("rec h (x : any) : int => x", "rec h (x : int) : int => x"),
                           ("rec h (x : int) : any => x", "rec h (x : int) : int => x"),
                           ("1 + (fun x => x) 2", "1 + (fun x : box int => x) 2")):
            self.check(one, other, True, False)

    def test_annotations_that_are_not_comparable(self):
        self.check("fun x : int => x", "fun x : bool => x", False, False)
        self.check("(x : int -> any)", "(x : any -> int)", False, False)
        self.check("rec h (x : any) : int => x", "rec h (x : int) : any => x", False, False)
        self.check("((x : any) : int)", "((x : int) : any)", False, False)

    def test_all_annotations_count(self):
        exact = "(rec h (x : int) : int => (x : int)) (fun y : int => y)"
        for at in range(4):
            types = [ANY] * 4
            types[at] = BOOL
            self.assertIs(is_less_exact(with_annotations(read(exact), types), read(exact)), False)
            types[at] = INT
            self.assertIs(is_less_exact(with_annotations(read(exact), types), read(exact)), True)

    def test_expressions_that_differ_in_anything_else(self):
        for one, other in (
                ("x", "y"), ("1", "2"), ("1", "x"), ("true", "false"), ("unit", "x"), ("x + y", "x - y"),
                ("x < y", "x == y"), ("x + y", "y + x"), ("fst x", "snd x"), ("box x", "get x"), ("(x, y)", "put x y"),
                ("fun x => x", "fun y => y"), ("fun x => x", "fun y => x"), ("fun x => x", "fun x => y"),
                ("rec h (x : any) : any => x", "rec g (x : any) : any => x"),
                ("rec h (x : any) : any => x", "rec h (y : any) : any => x"),
                ("let x = 1 in x", "let y = 1 in x"), ("let x = 1 in x", "let x = 2 in x"),
                ("(x : any)", "x"), ("(x : any)", "((x : any) : any)"), ("f x", "f y"), ("f x", "(f, x)"),
                ("if x then y else z", "if x then z else y"), ("not x", "x"), ("print x ; y", "print x ; z"),
                ("fun x => x", "rec h (x : any) : any => x"), ("fun x => 1", "fun x : int => 2")):
            self.check(one, other, False, False)

    def test_each_place_of_a_part(self):
        for place in places(FORMS):
            exact = around(place, ("as", X, fun(INT, BOOL)))
            for less in less_exact_types(fun(INT, BOOL)):
                self.assertIs(is_less_exact(around(place, ("as", X, less)), exact), True, place)
            self.assertIs(is_less_exact(around(place, ("as", X, BOOL)), exact), False, place)
            self.assertIs(is_less_exact(around(place, ("as", Y, ANY)), exact), False, place)

    def test_random_expressions(self):
        for seed, expression in enumerate(random_expressions()):
            chance = random.Random(seed)
            types = annotations(expression)
            less = with_annotations(expression, [weakened(chance, one) for one in types])
            self.assertIs(is_less_exact(less, expression), True)
            self.assertIs(is_less_exact(expression, less), less == expression)
            self.assertIs(is_less_exact(erased(expression), less), True)


class Pr4ExactAndErased(unittest.TestCase):
    def test_exact_expressions(self):
        for text in ("x", "1", "f x + 1", "fun x : int => x", "rec h (x : int) : bool => x",
                     "(x : int -> (bool, box unit))", "(fun x : int => (x : int)) 2"):
            self.assertIs(is_exact(read(text)), True, text)

    def test_any_as_an_annotation(self):
        for text in ("fun x => x", "fun x : any => x", "rec h (x : any) : int => x", "rec h (x : int) : any => x",
                     "(x : any)", "((x : int) : any)", "((x : any) : int)", "fun x : int => fun y => x"):
            self.assertIs(is_exact(read(text)), False, text)

    def test_any_deep_in_an_annotation(self):
        for given in ("int -> any", "any -> int", "(int, any)", "(any, int)", "box any", "box box any",
                      "int -> (bool, box (int -> any))", "((any, int), int)", "(int -> any -> int) -> int"):
            for text in (f"fun x : {given} => x", f"rec h (x : {given}) : int => x", f"rec h (x : int) : {given} => x",
                         f"(x : {given})"):
                self.assertIs(is_exact(read(text)), False, text)
                self.assertIs(is_exact(read(text.replace("any", "int"))), True, text)

    def test_any_in_each_place_of_a_part(self):
        for place in places(FORMS):
            self.assertIs(is_exact(around(place, ("as", X, fun(INT, ANY)))), False, place)
            self.assertIs(is_exact(around(place, ("as", X, fun(INT, INT)))), True, place)

    def test_erased_forms(self):
        cases = {
            "x": "x", "f x + 1": "f x + 1", "fun x : int => x": "fun x => x", "(x : int -> bool)": "(x : any)",
            "rec h (x : int) : bool -> int => (x : any)": "rec h (x : any) : any => (x : any)",
            "(fun x : box int => (x : box int)) (box 2)": "(fun x => (x : any)) (box 2)",
            "((x : int) : bool)": "((x : any) : any)",
        }
        for text, expected in cases.items():
            self.assertEqual(erased(read(text)), read(expected), text)

    def test_each_form(self):
        for name, (_, _, make) in FORMS.items():
            self.assertEqual(erased(MAKERS[name]), make(E, [ANY, ANY]), name)

    def test_the_erased_form_comes_from_every_expression(self):
        for expression in random_expressions():
            plain = erased(expression)
            self.assertIs(is_less_exact(plain, expression), True)
            self.assertEqual(erased(plain), plain)
            self.assertEqual(annotations(plain), [ANY] * len(annotations(expression)))
            self.assertEqual(is_exact(plain), annotations(expression) == [])


class Examples(unittest.TestCase):
    def test_the_examples_of_the_interface(self):
        self.assertEqual(annotations(read("(fun f : int -> int => f (2 : int)) (rec g (x : int) : int => x)")),
                         [('fun', ('int',), ('int',)), ('int',), ('int',), ('int',)])
        self.assertEqual(numbered(read("f (1 + x)"))[2:],
                         [('op', '+', ('num', 1), ('name', 'x')), ('num', 1), ('name', 'x')])
        self.assertEqual(erased(read("(3 : int)")), ('as', ('num', 3), ('any',)))


if __name__ == "__main__":
    unittest.main()
