"""How deep texts may be: point RE4."""

import unittest

from halfnoted.reader import read, read_type
from support import fault, malformed, unbounded

X = ("name", "x")
INT = ("int",)
DEEP = unbounded("depth")


def depth(tree):
    return 1 + max([depth(part) for part in tree if isinstance(part, tuple)], default=0)


def around(before, middle, behind):
    """Makes texts in which the middle stands inside so many pairs of before and behind."""
    return lambda many: before * many + middle + behind * many


# The text of a chain of so many links, and how many links are read at most.
EXPRESSIONS = {
    "parentheses": (around("(", "x", ")"), 29),
    "pairs to the right": (around("(x, ", "x", ")"), 29),
    "pairs to the left": (around("(", "x", ", x)"), 29),
    "annotations": (around("(", "x", " : int)"), 29),
    "fst": (around("fst ", "x", ""), 58),
    "snd": (around("snd ", "x", ""), 58),
    "box": (around("box ", "x", ""), 58),
    "get": (around("get ", "x", ""), 58),
    "not": (around("not ", "x", ""), 58),
    "fst around put": (around("fst ", "put x x", ""), 58),
    "two prefixes": (around("get fst ", "x", ""), 29),
    "put to the right": (around("put x (", "x", ")"), 29),
    "put to the left": (around("put (", "x", ") x"), 29),
    "fst and parentheses": (around("fst (", "x", ")"), 19),
    "sums": (around("x + ", "x", ""), 59),
    "differences": (around("x - ", "x", ""), 59),
    "products": (around("x * ", "x", ""), 59),
    "sums of products": (around("x * x + ", "x", ""), 58),
    "sums to the right": (around("x + (", "x", ")"), 29),
    "sums to the left": (around("(", "x", " + x)"), 29),
    "comparisons": (around("x < (", "x", ")"), 29),
    "calls": (around("x ", "x", ""), 59),
    "calls to the right": (around("x (", "x", ")"), 29),
    "calls to the left": (around("(", "x", " x)"), 29),
    "fun": (around("fun x => ", "x", ""), 58),
    "fun with an annotation": (around("fun x : int => ", "x", ""), 58),
    "rec": (around("rec f (x : int) : int => ", "x", ""), 58),
    "second parts of let": (around("let x = x in ", "x", ""), 58),
    "first parts of let": (around("let x = ", "x", " in x"), 58),
    "conditions": (around("if ", "x", " then x else x"), 58),
    "second parts of if": (around("if x then ", "x", " else x"), 58),
    "third parts of if": (around("if x then x else ", "x", ""), 58),
    "print": (around("print x ; ", "x", ""), 58),
    "fun in parentheses": (around("(fun x => ", "x", ")"), 19),
    "box types of fun": (lambda many: "fun x : " + "box " * many + "int => x", 58),
    "box types of rec": (lambda many: "rec f (x : " + "box " * many + "int) : int => x", 58),
    "box types of the results of rec": (lambda many: "rec f (x : int) : " + "box " * many + "int => x", 58),
    "box types of annotations": (lambda many: "(x : " + "box " * many + "int)", 57),
    "arrows of fun": (lambda many: "fun x : " + "int -> " * many + "int => x", 58),
    "arrows of annotations": (lambda many: "(x : " + "int -> " * many + "int)", 57),
}
TYPES = {
    "parentheses": (around("(", "int", ")"), 59),
    "box": (around("box ", "int", ""), 59),
    "box and parentheses": (around("box (", "int", ")"), 29),
    "arrows": (around("int -> ", "int", ""), 59),
    "arrows to the left": (around("(", "int", " -> int)"), 58),
    "arrows to the right in parentheses": (around("int -> (", "int", ")"), 29),
    "pairs to the right": (around("(int, ", "int", ")"), 59),
    "pairs to the left": (around("(", "int", ", int)"), 59),
    "pairs of arrows": (around("(", "int", " -> int, int)"), 29),
}


class Re4Chains(unittest.TestCase):
    def check(self, reading, chains):
        for name, (text, most) in chains.items():
            for many in (1, 2, most // 2, most - 1, most):
                self.assertLessEqual(depth(reading(text(many))), 60, name)
            for many in (most + 1, most + 2, 59, 60, 61, 62, 100, 300):
                if many > most and len(text(many)) <= 10000:
                    self.assertEqual(fault(reading, text(many)), DEEP, (name, many))

    def test_chains_of_expressions(self):
        self.check(read, EXPRESSIONS)

    def test_chains_of_types(self):
        self.check(read_type, TYPES)

    def test_a_fault_before_a_chain_comes_first(self):
        for text, _ in EXPRESSIONS.values():
            self.assertEqual(fault(read, "x ) " + text(60)), malformed(2))
            self.assertEqual(fault(read, "fun => " + text(60)), malformed(4))
        for text, _ in TYPES.values():
            self.assertEqual(fault(read_type, "box ) " + text(60)), malformed(4))

    def test_a_fault_behind_a_chain_comes_later(self):
        for text, most in EXPRESSIONS.values():
            self.assertEqual(fault(read, text(60) + " )"), DEEP)
            self.assertEqual(fault(read, text(most) + " )"), malformed(len(text(most)) + 1))
        for text, most in TYPES.values():
            self.assertEqual(fault(read_type, text(60) + " )"), DEEP)
            self.assertEqual(fault(read_type, text(most) + " )"), malformed(len(text(most)) + 1))


class Re4Trees(unittest.TestCase):
    """The longest chains are read as what they are."""

    def repeated(self, tree, many, link):
        for _ in range(many):
            tree = link(tree)
        return tree

    def test_expressions(self):
        one = ("num", 1)
        self.assertEqual(read("not " * 58 + "x"), self.repeated(X, 58, lambda e: ("not", e)))
        self.assertEqual(read("1" + " + 1" * 59), self.repeated(one, 59, lambda e: ("op", "+", e, one)))
        self.assertEqual(read("1" + " * 1" * 59), self.repeated(one, 59, lambda e: ("op", "*", e, one)))
        self.assertEqual(read("x" + " 1" * 59), self.repeated(X, 59, lambda e: ("call", e, one)))
        self.assertEqual(read("fun x => " * 58 + "x"), self.repeated(X, 58, lambda e: ("fun", "x", ("any",), e)))
        self.assertEqual(read("(" * 29 + "x" + ")" * 29), X)

    def test_types(self):
        self.assertEqual(read_type("box " * 59 + "int"), self.repeated(INT, 59, lambda t: ("box", t)))
        self.assertEqual(read_type("int -> " * 59 + "int"), self.repeated(INT, 59, lambda t: ("fun", INT, t)))
        self.assertEqual(read_type("(" * 59 + "int" + ")" * 59), INT)

    def test_depths_of_sixty(self):
        for text in ("1" + " + 1" * 59, "1" + " - 1" * 59, "1" + " * 1" * 59, "x" + " 1" * 59,
                     "fun x : " + "box " * 58 + "int => x", "fun x => 1" + " + 1" * 58):
            self.assertEqual(depth(read(text)), 60)
        for text in ("box " * 59 + "int", "int -> " * 59 + "int", "(" * 59 + "int" + ", int)" * 59):
            self.assertEqual(depth(read_type(text)), 60)


class Re4OpenParts(unittest.TestCase):
    """Unbounded is raised before a token of the 61st part is read, and not earlier."""

    def check(self, reading, link, most, rest):
        """So many links are read, one more opens the 61st part; rest is what does not fit behind them."""
        self.assertEqual(fault(reading, link * most), malformed(len(link) * most))
        self.assertEqual(fault(reading, link * most + rest), malformed(len(link) * most))
        self.assertEqual(fault(reading, link * (most + 1)), DEEP)
        self.assertEqual(fault(reading, link * (most + 1) + rest), DEEP)

    def test_prefixes(self):
        for word in ("fst", "snd", "box", "get", "not"):
            self.check(read, word + " ", 58, ")")

    def test_parentheses(self):
        self.check(read, "(", 29, ")")
        self.check(read_type, "(", 59, ")")

    def test_expressions(self):
        for link in ("fun x => ", "let x = x in ", "let x = ", "if ", "if x then ", "if x then x else ", "print x ; "):
            self.check(read, link, 58, ")")

    def test_the_sixtieth_expression_may_begin_with_a_word_of_its_own(self):
        self.assertEqual(fault(read, "fun x => " * 59 + "fun"), malformed(59 * 9 + 3))
        self.assertEqual(fault(read, "fun x => " * 59 + "let )"), malformed(59 * 9 + 4))
        self.assertEqual(fault(read, "fun x => " * 59 + "if"), DEEP)
        self.assertEqual(fault(read, "fun x => " * 59 + "fun x )"), malformed(59 * 9 + 6))
        self.assertEqual(fault(read, "fun x => " * 59 + "fun x => "), DEEP)
        self.assertEqual(fault(read, "fun x => " * 59 + "fun x : )"), DEEP)
        self.assertEqual(fault(read, "fun x => " * 58 + "fun x : int )"), malformed(58 * 9 + 12))
        self.assertEqual(fault(read, "fun x => " * 58 + "fun x : box"), DEEP)

    def test_box_types(self):
        self.check(read_type, "box ", 59, ")")
        for many, expected in ((58, malformed(8 + 4 * 58)), (59, DEEP)):
            self.assertEqual(fault(read, "fun x : " + "box " * many), expected)
            self.assertEqual(fault(read, "fun x : " + "box " * many + ")"), expected)

    def test_arrows(self):
        self.check(read_type, "int -> ", 59, ")")
        self.assertEqual(fault(read_type, "int -> " * 59 + "box"), DEEP)
        self.assertEqual(fault(read_type, "int -> " * 58 + "box"), malformed(58 * 7 + 3))

    def test_parts_that_are_closed_do_not_count(self):
        self.assertEqual(len(read("((x))" + " + ((x))" * 40)), 4)
        self.assertEqual(depth(read("(" * 29 + "x" + ")" * 29 + " + " + "(" * 29 + "x" + ")" * 29)), 2)
        self.assertEqual(depth(read("fst " * 58 + "x * " + "fst " * 58 + "x")), 60)
        self.assertEqual(depth(read_type("box " * 58 + "int -> " + "box " * 58 + "int")[2]), 59)
        self.assertEqual(depth(read_type("((int)) -> " * 57 + "((int))")), 58)

    def test_what_is_not_counted(self):
        self.assertEqual(depth(read("x" + " * x" * 30 + " + x" * 29)), 60)
        self.assertEqual(depth(read("x" + " x" * 20 + " * x" * 20 + " + x" * 18 + " < x")), 60)


class Re4Complete(unittest.TestCase):
    """Unbounded is raised when what is too deep is complete, before the next token is looked at."""

    def test_sums_products_and_calls(self):
        for link in (" + 1", " - 1", " * 1", " 1"):
            whole = "x" + link * 60
            for rest in ("", " )", " then", " + )", " in x", " ="):
                self.assertEqual(fault(read, whole + rest), DEEP)
                self.assertEqual(fault(read, "(" + whole + rest), DEEP)
                self.assertEqual(fault(read, "let x = " + whole + rest), DEEP)

    def test_a_fault_in_the_last_part_comes_first(self):
        for link in (" + ", " - ", " * "):
            text = "1" + (link + "1") * 59 + link
            self.assertEqual(fault(read, text), malformed(len(text)))
            self.assertEqual(fault(read, text + ")"), malformed(len(text)))
            self.assertEqual(fault(read, text + "(1 ) 1"), DEEP)
            self.assertEqual(fault(read, text + "(1"), malformed(len(text) + 2))
        text = "1" + " + 1" * 60
        self.assertEqual(fault(read, text + " * )"), malformed(len(text) + 3))
        text = "x" + " 1" * 59
        self.assertEqual(fault(read, text + " ("), malformed(len(text) + 2))
        self.assertEqual(fault(read, text + " (1"), malformed(len(text) + 3))
        self.assertEqual(fault(read, text + " (1)"), DEEP)

    def test_forms_around_what_is_sixty_deep(self):
        long = "1" + " + 1" * 59
        for text in ("fun x => " + long, "rec f (x : int) : int => " + long, "let x = " + long + " in x",
                     "let x = x in " + long, "if " + long + " then x else x", "if x then " + long + " else x",
                     "if x then x else " + long, "print " + long + " ; x", "print x ; " + long, long + " < x",
                     "x == " + long, "(" + long + ", x)", "(x, " + long + ")", "(" + long + " : int)",
                     "fst (" + long + ")", "put (" + long + ") x", "put x (" + long + ")", "x (" + long + ")",
                     "(" + long + ") x", "x * (" + long + ")"):
            self.assertEqual(fault(read, text), DEEP)
            self.assertEqual(fault(read, text + " )"), DEEP)
            self.assertEqual(depth(read(text.replace(long, long[4:]))), 60)

    def test_what_is_not_complete_is_not_too_deep_yet(self):
        long = "1" + " + 1" * 59
        for text in ("let x = " + long + " in", "let x = " + long, "if " + long + " then x else", "(" + long,
                     "(" + long + ", x", "(" + long + " : int", "print " + long + " ;", long + " <", "put x (" + long,
                     "put (" + long + ")"):
            self.assertEqual(fault(read, text), malformed(len(text)))
            self.assertEqual(fault(read, text + " ="), malformed(len(text) + 1))

    def test_annotations_count(self):
        long = "box " * 57 + "int"
        for text in ("(fun x : {} => x)", "(rec f (x : {}) : int => x)", "(rec f (x : int) : {} => x)"):
            self.assertEqual(depth(read(text.replace("{}", long[8:]))), 57)
        self.assertEqual(depth(read("fst (x : " + "box " * 54 + "int)")), 57)
        self.assertEqual(depth(read("fun x : " + "box " * 58 + "int => x")), 60)
        self.assertEqual(depth(read("not " * 4 + "(x : " + "box " * 52 + "int)")), 58)
        self.assertEqual(depth(read("(x : " + "box " * 57 + "int) + x")), 60)
        self.assertEqual(fault(read, "(x : " + "box " * 57 + "int) + x + x"), DEEP)
        self.assertEqual(fault(read, "(x : " + "box " * 57 + "int) + x < x )"), DEEP)

    def test_an_unwritten_annotation_is_one_deep(self):
        self.assertEqual(depth(read("(fun x => x)" + " + x" * 58)), 60)
        self.assertEqual(depth(read("(fun x : int => x)" + " + x" * 58)), 60)
        self.assertEqual(fault(read, "(fun x => x)" + " + x" * 59), DEEP)
        self.assertEqual(fault(read, "(fun x : box int => x)" + " + x" * 58), DEEP)

    def test_types_that_are_deep_without_many_open_parts(self):
        link = around("(", "int", " -> int, int)")
        self.assertEqual(depth(read_type(link(29))), 59)
        self.assertEqual(depth(read_type(link(29) + " -> int")), 60)
        self.assertEqual(depth(read_type("(" + link(29) + ", int)")), 60)
        self.assertEqual(fault(read_type, link(29) + " -> int -> box"), malformed(len(link(29)) + 14))
        self.assertEqual(fault(read_type, link(30)), DEEP)
        self.assertEqual(fault(read_type, link(30) + ")"), DEEP)
        self.assertEqual(fault(read_type, link(30)[:-1]), malformed(len(link(30)) - 1))
        self.assertEqual(fault(read_type, "(int, " + link(29) + " -> int"), malformed(len(link(29)) + 13))
        self.assertEqual(fault(read_type, "(int, " + link(29) + " -> int)"), DEEP)
        self.assertEqual(fault(read_type, "box (" + link(29) + " -> int) )"), DEEP)
        self.assertEqual(fault(read, "fun x : " + link(29) + " -> int )"), malformed(len(link(29)) + 16))
        self.assertEqual(fault(read, "fun x : " + link(29) + " -> int => x"), DEEP)


if __name__ == "__main__":
    unittest.main()
