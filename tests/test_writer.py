"""Expressions and types as texts: points WR1 and WR2."""

import itertools
import random
import unittest

from halfnoted.reader import read, read_type
from halfnoted.writer import show, show_type
from trees import (
    ANY, BOOL, F, FORMS, INT, LEAVES, SIGNS, TYPE_FORMS, UNIT, WORD_TYPES, X, Y, Z, all_types, around, box, depth, fun,
    pair, places, random_expression, random_type, type_around)

PLACES = places(FORMS)
TYPE_PLACES = places(TYPE_FORMS)
DEEPEST = 25
LONG_NAME = "a" * 20


def copied(tree):
    """An equal tree that shares no tuple with this one."""
    if isinstance(tree, tuple):
        return tuple([copied(one) for one in tree])
    return tree


class Texts(unittest.TestCase):
    def check_text(self, text):
        self.assertIs(type(text), str)
        self.assertNotIn("\n", text)
        self.assertNotIn("  ", text)
        self.assertEqual(text, text.strip())
        self.assertTrue(text.isascii())

    def check_tree(self, tree, reading, showing):
        kept = copied(tree)
        text = showing(tree)
        self.check_text(text)
        self.assertEqual(reading(text), tree, text)
        self.assertEqual(showing(reading(text)), text)
        self.assertEqual(showing(copied(tree)), text)
        self.assertEqual(tree, kept)

    def check(self, expression):
        self.check_tree(expression, read, show)

    def check_type(self, one):
        self.check_tree(one, read_type, show_type)


class Wr1Wr2Types(Texts):
    def test_words(self):
        for one in WORD_TYPES:
            self.check_type(one)
            self.assertEqual(show_type(one), one[0])

    def test_every_type_inside_every_other_one(self):
        for one in all_types(3, words=(INT, ANY)):
            self.check_type(one)

    def test_types_inside_types_inside_types(self):
        for outer, middle, inner in itertools.product(TYPE_PLACES, repeat=3):
            for word in WORD_TYPES:
                self.check_type(type_around(outer, type_around(middle, type_around(inner, word), BOOL), UNIT))

    def test_chains_of_one_and_of_two_forms(self):
        for one, other in itertools.product(TYPE_PLACES, repeat=2):
            tree = INT
            for at in range(DEEPEST - 1):
                tree = type_around(other if at % 2 else one, tree)
                self.check_type(tree)
            self.assertEqual(depth(tree), DEEPEST)

    def test_chains_of_all_forms(self):
        for seed in range(100):
            chance = random.Random(seed)
            tree = ANY
            while depth(tree) < DEEPEST:
                tree = type_around(chance.choice(TYPE_PLACES), tree, chance.choice(WORD_TYPES))
            self.check_type(tree)

    def test_random_types(self):
        for seed in range(200):
            self.check_type(random_type(random.Random(seed), 7))

    def test_arrows_and_boxes(self):
        for one, other in ((fun(fun(INT, BOOL), UNIT), fun(INT, fun(BOOL, UNIT))),
                           (box(fun(INT, BOOL)), fun(box(INT), BOOL)), (box(pair(INT, BOOL)), pair(box(INT), BOOL)),
                           (pair(fun(INT, BOOL), UNIT), fun(INT, pair(BOOL, UNIT)))):
            self.check_type(one)
            self.check_type(other)
            self.assertNotEqual(show_type(one), show_type(other))


class Wr1Wr2Forms(Texts):
    def test_forms_without_parts(self):
        for leaf in LEAVES:
            self.check(leaf)

    def test_numbers(self):
        for number in (0, 1, 9, 10, 100, 2 ** 31 - 2, 2 ** 31 - 1):
            self.check(("num", number))
            self.check(("op", "-", ("num", number), ("num", number)))
            self.check(("call", ("num", number), ("num", number)))

    def test_names_of_one_and_of_twenty_characters(self):
        for one, other in itertools.product(("x", "z", LONG_NAME, "b" + "_9" * 9 + "_", "any_"), repeat=2):
            self.check(("name", one))
            self.check(("fun", one, INT, ("name", one)))
            self.check(("rec", one, other, INT, BOOL, ("call", ("name", one), ("name", other))))
            self.check(("let", one, ("name", other), ("name", one)))
            self.check(("if", ("name", one), ("name", other), ("name", one)))
            self.check(("put", ("name", one), ("name", other)))
            self.check(("not", ("name", one)))

    def test_flags_and_numbers(self):
        self.assertIs(read(show(("flag", True)))[1], True)
        self.assertIs(read(show(("flag", False)))[1], False)
        self.assertIs(type(read(show(("num", 1)))[1]), int)
        self.assertIs(type(read(show(("num", 0)))[1]), int)

    def test_every_form_with_every_leaf(self):
        for place in PLACES:
            for one, other in itertools.product(LEAVES, repeat=2):
                self.check(around(place, one, other))

    def test_every_form_inside_every_other_one(self):
        for outer, inner in itertools.product(PLACES, repeat=2):
            self.check(around(outer, around(inner, X)))
            self.check(around(outer, around(inner, ("num", 1), ("flag", True), ANY), ("num", 2), BOOL))

    def test_forms_inside_forms_inside_forms(self):
        for outer, middle, inner in itertools.product(PLACES, repeat=3):
            self.check(around(outer, around(middle, around(inner, X), Z), Y))

    def test_all_parts_of_a_form_at_once(self):
        for name, (many, types, make) in FORMS.items():
            for inner in PLACES:
                part = around(inner, X)
                self.check(make([part] * many, [INT] * types))

    def test_signs_inside_signs(self):
        for outer, inner, last in itertools.product(SIGNS, repeat=3):
            self.check(("op", outer, ("op", inner, X, Y), ("op", last, Y, Z)))
            self.check(("op", outer, ("op", inner, ("op", last, X, Y), Z), F))
            self.check(("op", outer, X, ("op", inner, Y, ("op", last, Z, F))))
            self.check(("op", outer, X, ("op", inner, ("op", last, Y, Z), F)))

    def test_what_only_differs_in_its_grouping(self):
        for one, other in (
                (("call", ("call", F, X), Y), ("call", F, ("call", X, Y))),
                (("op", "-", ("op", "-", X, Y), Z), ("op", "-", X, ("op", "-", Y, Z))),
                (("op", "+", X, ("op", "*", Y, Z)), ("op", "*", ("op", "+", X, Y), Z)),
                (("not", ("op", "<", X, Y)), ("op", "<", ("not", X), Y)),
                (("fst", ("call", F, X)), ("call", ("fst", F), X)),
                (("put", X, ("call", Y, Z)), ("call", ("put", X, Y), Z)),
                (("fun", "x", INT, ("call", X, Y)), ("call", ("fun", "x", INT, X), Y)),
                (("print", ("op", "+", X, Y), Z), ("op", "+", ("print", X, Y), Z)),
                (("let", "x", Y, ("op", "+", X, Z)), ("op", "+", ("let", "x", Y, X), Z)),
                (("if", X, Y, ("call", Z, X)), ("call", ("if", X, Y, Z), X))):
            self.check(one)
            self.check(other)
            self.assertNotEqual(show(one), show(other))


class Wr1Wr2Annotations(Texts):
    def test_an_annotation_of_fun_that_is_any(self):
        self.check(("fun", "x", ANY, X))
        self.check(("fun", "x", ANY, ("fun", "y", ANY, ("fun", "z", INT, X))))
        self.check(("call", ("fun", "x", ANY, X), ("fun", "x", ANY, X)))

    def test_annotations_that_are_any(self):
        self.check(("as", X, ANY))
        self.check(("rec", "h", "x", ANY, ANY, X))
        self.check(("fun", "x", fun(ANY, ANY), X))

    def test_every_annotation_in_each_place(self):
        for one in all_types(2):
            self.check(("fun", "x", one, X))
            self.check(("rec", "h", "x", one, INT, X))
            self.check(("rec", "h", "x", INT, one, X))
            self.check(("as", X, one))

    def test_deep_annotations(self):
        for one, other in itertools.product(TYPE_PLACES, repeat=2):
            given = BOOL
            for at in range(DEEPEST - 2):
                given = type_around(other if at % 2 else one, given)
            for expression in (("fun", "x", given, X), ("rec", "h", "x", given, given, X), ("as", X, given)):
                self.assertEqual(depth(expression), DEEPEST)
                self.check(expression)

    def test_annotations_within_one_another(self):
        self.check(("as", ("as", ("as", X, INT), ANY), fun(INT, ANY)))
        self.check(("as", ("fun", "x", fun(INT, BOOL), ("as", X, INT)), fun(fun(INT, BOOL), INT)))


class Wr2Depths(Texts):
    def test_chains_of_each_form(self):
        for place in PLACES:
            expression = X
            for _ in range(DEEPEST - 1):
                expression = around(place, expression)
                self.check(expression)
            self.assertEqual(depth(expression), DEEPEST)

    def test_chains_of_two_forms(self):
        for one, other in itertools.product(PLACES, repeat=2):
            expression = X
            for at in range(DEEPEST - 1):
                expression = around(other if at % 2 else one, expression)
            self.assertEqual(depth(expression), DEEPEST)
            self.check(expression)

    def test_chains_of_three_forms(self):
        forms = [(name, FORMS[name][0] - 1) for name in FORMS] + [("put", 0), ("call", 0), ("+", 0)]
        for three in itertools.product(forms, repeat=3):
            expression = X
            for at in range(DEEPEST - 1):
                expression = around(three[at % 3], expression, ("unit",), ANY)
            self.assertEqual(read(show(expression)), expression)

    def test_chains_of_all_forms(self):
        for seed in range(200):
            chance = random.Random(seed)
            expression = X
            while depth(expression) < DEEPEST:
                expression = around(chance.choice(PLACES), expression, chance.choice(LEAVES), random_type(chance, 2))
            self.check(expression)

    def test_deep_types_in_deep_expressions(self):
        for place in PLACES:
            for given in (("box", 0), ("fun", 0), ("fun", 1), ("pair", 0), ("pair", 1)):
                expression = INT
                for _ in range(11):
                    expression = type_around(given, expression)
                expression = ("as", X, expression)
                while depth(expression) < DEEPEST:
                    expression = around(place, expression)
                self.check(expression)

    def test_random_expressions(self):
        for seed in range(300):
            self.check(random_expression(random.Random(seed), 6))

    def test_expressions_that_are_deeper_have_texts(self):
        for place in PLACES:
            expression = X
            for _ in range(59):
                expression = around(place, expression)
            self.check_text(show(expression))
        for place in TYPE_PLACES:
            given = INT
            for _ in range(59):
                given = type_around(place, given)
            self.check_text(show_type(given))


class Examples(unittest.TestCase):
    def test_the_example_of_the_interface(self):
        self.assertEqual(read(show(("call", ("fun", "x", ("int",), ("name", "x")), ("num", 3)))),
                         ('call', ('fun', 'x', ('int',), ('name', 'x')), ('num', 3)))

    def test_texts_of_many_lines_are_shown_on_one(self):
        text = "let f =\n  fun x : int =>\n    x + 1 in\n\n  f  (2 : any)"
        self.assertNotIn("\n", show(read(text)))
        self.assertEqual(read(show(read(text))), read(text))


if __name__ == "__main__":
    unittest.main()
