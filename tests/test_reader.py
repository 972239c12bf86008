"""What texts are: points RE1, RE2 and RE3."""

import unittest

from halfnoted.reader import read, read_type
from support import fault, malformed, unbounded

INT, BOOL, UNIT, ANY = ("int",), ("bool",), ("unit",), ("any",)
F, X, Y, Z = ("name", "f"), ("name", "x"), ("name", "y"), ("name", "z")


def op(sign, left, right):
    return ("op", sign, left, right)


def call(called, *passed):
    for argument in passed:
        called = ("call", called, argument)
    return called


class Cases(unittest.TestCase):
    def check(self, reading, cases):
        for text, tree in cases.items():
            self.assertEqual(reading(text), tree, text)


class Re1Types(Cases):
    def test_the_words(self):
        self.check(read_type, {"int": INT, "bool": BOOL, "unit": UNIT, "any": ANY})

    def test_functions_pairs_and_boxes(self):
        self.check(read_type, {
            "int -> bool": ("fun", INT, BOOL),
            "(int, bool)": ("pair", INT, BOOL),
            "box unit": ("box", UNIT),
            "any->any": ("fun", ANY, ANY),
            "(any,any)": ("pair", ANY, ANY),
            "box any": ("box", ANY),
        })

    def test_arrows_associate_to_the_right(self):
        self.check(read_type, {
            "int -> bool -> unit": ("fun", INT, ("fun", BOOL, UNIT)),
            "(int -> bool) -> unit": ("fun", ("fun", INT, BOOL), UNIT),
            "int -> (bool -> unit)": ("fun", INT, ("fun", BOOL, UNIT)),
            "int -> bool -> unit -> any": ("fun", INT, ("fun", BOOL, ("fun", UNIT, ANY))),
        })

    def test_box_binds_tighter_than_an_arrow(self):
        self.check(read_type, {
            "box int -> bool": ("fun", ("box", INT), BOOL),
            "int -> box bool": ("fun", INT, ("box", BOOL)),
            "box int -> box bool -> unit": ("fun", ("box", INT), ("fun", ("box", BOOL), UNIT)),
            "box (int -> bool)": ("box", ("fun", INT, BOOL)),
        })

    def test_the_operand_of_box(self):
        self.check(read_type, {
            "box int": ("box", INT), "box bool": ("box", BOOL), "box unit": ("box", UNIT), "box any": ("box", ANY),
            "box box int": ("box", ("box", INT)),
            "box box box any": ("box", ("box", ("box", ANY))),
            "box (int)": ("box", INT),
            "box (int, bool)": ("box", ("pair", INT, BOOL)),
            "box (box int)": ("box", ("box", INT)),
        })

    def test_parentheses_without_a_comma_leave_no_trace(self):
        self.check(read_type, {
            "(int)": INT, "((any))": ANY, "(((box int)))": ("box", INT), "(int -> bool)": ("fun", INT, BOOL),
            "((int, bool))": ("pair", INT, BOOL), "((int), (bool))": ("pair", INT, BOOL),
            "(int) -> (bool)": ("fun", INT, BOOL), "box ((int))": ("box", INT),
        })

    def test_pairs_of_all_kinds(self):
        self.check(read_type, {
            "(int -> bool, box unit)": ("pair", ("fun", INT, BOOL), ("box", UNIT)),
            "((int, bool), (unit, any))": ("pair", ("pair", INT, BOOL), ("pair", UNIT, ANY)),
            "(int, bool) -> unit": ("fun", ("pair", INT, BOOL), UNIT),
            "int -> (bool, unit)": ("fun", INT, ("pair", BOOL, UNIT)),
        })

    def test_what_is_no_type(self):
        faults = {
            "": 0, "x": 0, "1": 0, "true": 0, "->": 0, "()": 1, "(int": 4, "(int,": 5, "(int,)": 5, "(int, bool": 10,
            "(int, bool, unit)": 10, "int,": 3, "int bool": 4, "box": 3, "box -> int": 4, "int ->": 6,
            "int -> )": 7, "int => bool": 4, "fst int": 0, "(,int)": 1, "int box": 4, "box int int": 8, "(int))": 5,
        }
        for text, at in faults.items():
            self.assertEqual(fault(read_type, text), malformed(at), text)


class Re2Forms(Cases):
    def test_plain_values_and_names(self):
        self.check(read, {
            "0": ("num", 0), "7": ("num", 7), "2147483647": ("num", 2147483647), "true": ("flag", True),
            "false": ("flag", False), "unit": ("unit",), "x": X, "x_1y": ("name", "x_1y"),
        })

    def test_flags_are_flags_and_numbers_are_integers(self):
        self.assertIs(read("true")[1], True)
        self.assertIs(read("false")[1], False)
        self.assertIs(type(read("1")[1]), int)
        self.assertIs(type(read("0")[1]), int)

    def test_calls(self):
        self.check(read, {"f x": call(F, X), "f 1": call(F, ("num", 1)), "f(x)": call(F, X),
                          "f unit": call(F, ("unit",)), "1 true": call(("num", 1), ("flag", True))})

    def test_functions(self):
        self.check(read, {
            "fun x : int => x": ("fun", "x", INT, X),
            "fun x => x": ("fun", "x", ANY, X),
            "fun x : any => x": ("fun", "x", ANY, X),
            "fun f : int -> bool => f 1": ("fun", "f", ("fun", INT, BOOL), call(F, ("num", 1))),
            "fun x : (int, any) => x": ("fun", "x", ("pair", INT, ANY), X),
        })

    def test_functions_with_names_of_their_own(self):
        self.check(read, {
            "rec f (x : int) : bool => x": ("rec", "f", "x", INT, BOOL, X),
            "rec f (f : any) : any => f": ("rec", "f", "f", ANY, ANY, F),
            "rec f (x : int -> int) : box int -> unit => f":
                ("rec", "f", "x", ("fun", INT, INT), ("fun", ("box", INT), UNIT), F),
        })

    def test_let_if_print(self):
        self.check(read, {
            "let x = 1 in x": ("let", "x", ("num", 1), X),
            "if x then y else z": ("if", X, Y, Z),
            "print x ; y": ("print", X, Y),
            "print x;y": ("print", X, Y),
        })

    def test_pairs_and_boxes(self):
        self.check(read, {
            "(x, y)": ("pair", X, Y), "fst x": ("fst", X), "snd x": ("snd", X), "box x": ("box", X),
            "get x": ("get", X), "put x y": ("put", X, Y), "not x": ("not", X),
        })

    def test_operators(self):
        for sign in ("+", "-", "*", "<", "=="):
            self.check(read, {"x " + sign + " y": op(sign, X, Y), "x" + sign + "y": op(sign, X, Y)})

    def test_annotations(self):
        self.check(read, {
            "(x : int)": ("as", X, INT), "(x : any)": ("as", X, ANY),
            "(x : int -> bool)": ("as", X, ("fun", INT, BOOL)), "(x : (int, bool))": ("as", X, ("pair", INT, BOOL)),
            "((x : int) : any)": ("as", ("as", X, INT), ANY),
        })


class Re3Binding(Cases):
    def test_sums_products_and_calls_associate_to_the_left(self):
        for one in ("+", "-"):
            for other in ("+", "-"):
                self.check(read, {f"x {one} y {other} z": op(other, op(one, X, Y), Z),
                                  f"x {one} (y {other} z)": op(one, X, op(other, Y, Z))})
        self.check(read, {
            "x * y * z": op("*", op("*", X, Y), Z), "x * (y * z)": op("*", X, op("*", Y, Z)),
            "f x y z": call(F, X, Y, Z), "f (x y) z": call(F, call(X, Y), Z), "f (x (y z))": call(F, call(X, call(Y, Z))),
        })

    def test_products_bind_tighter_than_sums(self):
        for sign in ("+", "-"):
            self.check(read, {
                f"x {sign} y * z": op(sign, X, op("*", Y, Z)), f"x * y {sign} z": op(sign, op("*", X, Y), Z),
                f"(x {sign} y) * z": op("*", op(sign, X, Y), Z), f"x * (y {sign} z)": op("*", X, op(sign, Y, Z)),
            })

    def test_sums_bind_tighter_than_comparisons(self):
        for sign in ("<", "=="):
            self.check(read, {
                f"x {sign} y + z": op(sign, X, op("+", Y, Z)), f"x - y {sign} z": op(sign, op("-", X, Y), Z),
                f"x * y {sign} z * f": op(sign, op("*", X, Y), op("*", Z, F)),
                f"(x {sign} y) + z": op("+", op(sign, X, Y), Z),
            })

    def test_comparisons_do_not_associate(self):
        for one in ("<", "=="):
            for other in ("<", "=="):
                self.assertEqual(fault(read, f"x {one} y {other} z"), malformed(5 + len(one)))
                self.check(read, {f"(x {one} y) {other} z": op(other, op(one, X, Y), Z),
                                  f"x {one} (y {other} z)": op(one, X, op(other, Y, Z))})

    def test_prefixes_bind_tighter_than_operators(self):
        for word in ("fst", "snd", "box", "get", "not"):
            for sign in ("+", "-", "*", "<", "=="):
                self.check(read, {f"{word} x {sign} y": op(sign, (word, X), Y),
                                  f"x {sign} {word} y": op(sign, X, (word, Y)),
                                  f"{word} (x {sign} y)": (word, op(sign, X, Y))})

    def test_calls_bind_tighter_than_prefixes(self):
        for word in ("fst", "snd", "box", "get", "not"):
            self.check(read, {f"{word} f x": (word, call(F, X)), f"({word} f) x": call((word, F), X),
                              f"f ({word} x)": call(F, (word, X)), f"{word} f x y": (word, call(F, X, Y))})
            self.assertEqual(fault(read, f"f {word} x"), malformed(2))

    def test_prefixes_of_prefixes(self):
        for one in ("fst", "snd", "box", "get", "not"):
            for other in ("fst", "snd", "box", "get", "not"):
                self.check(read, {f"{one} {other} x": (one, (other, X))})
            self.check(read, {f"{one} put x y": (one, ("put", X, Y))})

    def test_put_takes_two_atoms(self):
        self.check(read, {
            "put (f x) (y + z)": ("put", call(F, X), op("+", Y, Z)), "put x 1 + y": op("+", ("put", X, ("num", 1)), Y),
            "put (x, y) (z : int)": ("put", ("pair", X, Y), ("as", Z, INT)), "x * put y z": op("*", X, ("put", Y, Z)),
            "put x (put y z)": ("put", X, ("put", Y, Z)), "(put x y) z": call(("put", X, Y), Z),
            "put true unit": ("put", ("flag", True), ("unit",)),
        })
        for text, at in {"put x": 5, "put": 3, "put x y z": 8, "put fst x y": 4, "put x fst y": 6, "f put x y": 2,
                         "put x + y": 6, "put put x y z": 4}.items():
            self.assertEqual(fault(read, text), malformed(at), text)

    def test_calls_bind_tighter_than_operators(self):
        self.check(read, {"f x + y z": op("+", call(F, X), call(Y, Z)), "f (x + y) z": call(F, op("+", X, Y), Z),
                          "f x * y": op("*", call(F, X), Y), "f x < y": op("<", call(F, X), Y),
                          "f -1": op("-", F, ("num", 1))})

    def test_long_forms_reach_as_far_as_they_can(self):
        self.check(read, {
            "fun x => x + y": ("fun", "x", ANY, op("+", X, Y)),
            "fun x => x < y": ("fun", "x", ANY, op("<", X, Y)),
            "fun x => fun y => x y": ("fun", "x", ANY, ("fun", "y", ANY, call(X, Y))),
            "rec f (x : int) : int => f x": ("rec", "f", "x", INT, INT, call(F, X)),
            "let x = y in x + z": ("let", "x", Y, op("+", X, Z)),
            "let x = let y = z in y in x": ("let", "x", ("let", "y", Z, Y), X),
            "let x = fun y => y in x": ("let", "x", ("fun", "y", ANY, Y), X),
            "if x then y else z + f": ("if", X, Y, op("+", Z, F)),
            "if x then y else if z then f else x": ("if", X, Y, ("if", Z, F, X)),
            "if if x then y else z then f else x": ("if", ("if", X, Y, Z), F, X),
            "if x then if y then z else f else x": ("if", X, ("if", Y, Z, F), X),
            "if x < y then fun x => x else z": ("if", op("<", X, Y), ("fun", "x", ANY, X), Z),
            "if x then print y ; z else f": ("if", X, ("print", Y, Z), F),
            "print x ; y < z": ("print", X, op("<", Y, Z)),
            "print x + y ; print z ; f": ("print", op("+", X, Y), ("print", Z, F)),
            "print x ; let y = z in y": ("print", X, ("let", "y", Z, Y)),
            "let x = print y ; z in f": ("let", "x", ("print", Y, Z), F),
        })

    def test_what_print_prints_is_a_sum(self):
        self.check(read, {"print (x < y) ; z": ("print", op("<", X, Y), Z),
                          "print not x * y - z ; f": ("print", op("-", op("*", ("not", X), Y), Z), F)})
        for text, at in {"print x < y ; z": 8, "print fun x => x ; y": 6, "print print x ; y ; z": 6,
                         "print if x then y else z ; f": 6}.items():
            self.assertEqual(fault(read, text), malformed(at), text)

    def test_long_forms_stand_only_where_an_expression_stands(self):
        for form in ("fun x => x", "rec f (x : int) : int => x", "let x = y in x", "if x then y else z", "print x ; y"):
            tree = read(form)
            self.check(read, {
                f"({form})": tree, f"f ({form})": call(F, tree), f"({form}) x": call(tree, X),
                f"x + ({form})": op("+", X, tree), f"({form}) < y": op("<", tree, Y), f"fst ({form})": ("fst", tree),
                f"({form}, {form})": ("pair", tree, tree), f"({form} : any)": ("as", tree, ANY),
            })
            for before in ("f ", "x + ", "x * ", "x < ", "fst ", "put x ", "put ", "print "):
                self.assertEqual(fault(read, before + form), malformed(len(before)), before + form)

    def test_redundant_parentheses(self):
        self.check(read, {
            "(x)": X, "((x))": X, "(((1)))": ("num", 1), "(f) (x)": call(F, X), "((f) x)": call(F, X),
            "(x) + (y)": op("+", X, Y), "((x + y)) + z": op("+", op("+", X, Y), Z), "fst (x)": ("fst", X),
            "((x, y))": ("pair", X, Y), "((x), (y))": ("pair", X, Y), "((x : int))": ("as", X, INT),
            "((x) : (int))": ("as", X, INT), "(fun x => (x))": ("fun", "x", ANY, X),
            "let x = (y) in (z)": ("let", "x", Y, Z), "if (x) then (y) else (z)": ("if", X, Y, Z),
            "print (x) ; (y)": ("print", X, Y), "put (x) (y)": ("put", X, Y),
        })

    def test_pairs_of_pairs(self):
        self.check(read, {"((x, y), z)": ("pair", ("pair", X, Y), Z), "(x, (y, z))": ("pair", X, ("pair", Y, Z)),
                          "(f x, y + z)": ("pair", call(F, X), op("+", Y, Z))})

    def test_an_annotation_may_be_any_type(self):
        for text in ("int", "any", "box int", "int -> any -> bool", "(int, bool)", "(int -> bool, box box any)"):
            annotation = read_type(text)
            self.check(read, {
                f"fun x : {text} => x": ("fun", "x", annotation, X),
                f"rec f (x : {text}) : any => x": ("rec", "f", "x", annotation, ANY, X),
                f"rec f (x : any) : {text} => x": ("rec", "f", "x", ANY, annotation, X),
                f"(x : {text})": ("as", X, annotation),
            })

    def test_separators_do_not_matter(self):
        tree = ("let", "f", ("fun", "x", INT, op("+", X, Y)), call(F, Z))
        self.check(read, {"let f = fun x : int => x + y in f z": tree, "let f=fun x:int=>x+y in f z": tree,
                          "\n let\nf  =\n\nfun x : int => x\n+ y in (f)z ": tree})


class Examples(Cases):
    def test_the_examples_of_the_interface(self):
        self.assertEqual(
            read("let f = fun x => x + 1 in f (true : any)"),
            ('let', 'f', ('fun', 'x', ('any',), ('op', '+', ('name', 'x'), ('num', 1))),
             ('call', ('name', 'f'), ('as', ('flag', True), ('any',)))))
        self.assertEqual(
            read_type("box int -> (any, int) -> bool"),
            ('fun', ('box', ('int',)), ('fun', ('pair', ('any',), ('int',)), ('bool',))))
        self.assertEqual(fault(read, "fst (1, 2"), malformed(9))

    def test_what_tokenize_raises_comes_first(self):
        for reading in (read, read_type):
            self.assertEqual(fault(reading, ") ) $"), malformed(4))
            self.assertEqual(fault(reading, "(" * 70 + " 07"), malformed(71))
            self.assertEqual(fault(reading, ")" * 10001), unbounded("text"))
            self.assertEqual(fault(reading, "(" * 10001), unbounded("text"))
            self.assertEqual(fault(reading, ")" * 10000), malformed(0))

    def test_texts_of_ten_thousand_characters(self):
        self.assertEqual(read(" " * 9999 + "x"), X)
        self.assertEqual(read_type("int" + "\n" * 9997), INT)
        self.assertEqual(fault(read, " " * 10000), malformed(10000))


if __name__ == "__main__":
    unittest.main()
