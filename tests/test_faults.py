"""Where texts are malformed: point RE5, and the grammar of point RE3 as a whole.

The grammar is written out once more below, and followed by a chart instead of by recursive descent. The chart
knows after each token which tokens can follow, so it tells the first token that does not fit.
"""

import random
import unittest

from halfnoted.reader import read, read_type
from halfnoted.tokens import WORDS
from support import fault, malformed

GRAMMAR = """
expression = fun NAME => expression | fun NAME : type => expression
expression = rec NAME ( NAME : type ) : type => expression
expression = let NAME = expression in expression
expression = if expression then expression else expression
expression = print sum ; expression | comparison
comparison = sum | sum < sum | sum == sum
sum = product | sum + product | sum - product
product = prefix | product * prefix
prefix = fst prefix | snd prefix | box prefix | get prefix | not prefix | put atom atom | call
call = atom | call atom
atom = NUMBER | NAME | true | false | unit
atom = ( expression ) | ( expression : type ) | ( expression , expression )
type = simple | simple -> type
simple = int | bool | unit | any | box simple | ( type ) | ( type , type )
"""
SIGNS = ("=>", "->", "==", "(", ")", ",", ":", ";", "=", "+", "-", "*", "<")
TOKENS = ("NAME", "NUMBER") + WORDS + SIGNS
TEXTS = {"NAME": "x", "NUMBER": "1"}


def productions():
    rules = {}
    for line in GRAMMAR.strip().split("\n"):
        words = line.split(" ")
        rest = " ".join(words[2:]).replace("| ", "\n").split("\n")
        rules.setdefault(words[0], []).extend(tuple(one.split()) for one in rest)
    return rules


RULES = productions()


class Chart:
    """The rows of an Earley chart; an item is a left side, a right side, how much of it is read, and its first row."""

    def __init__(self, start):
        self.start = start
        self.rows = []
        self.close([(start, right, 0, 0) for right in RULES[start]])

    def close(self, items):
        """Adds a row with what follows from these items."""
        here = len(self.rows)
        row = {}
        self.rows.append(row)
        while items:
            item = items.pop()
            if item in row:
                continue
            row[item] = True
            left, right, done, begin = item
            if done == len(right):
                items.extend((a, b, c + 1, d) for a, b, c, d in self.rows[begin] if c < len(b) and b[c] == left)
            elif right[done] in RULES:
                items.extend((right[done], one, 0, here) for one in RULES[right[done]])

    def push(self, token):
        """Adds the row behind a token, if the token fits, and tells if it did."""
        items = [(a, b, c + 1, d) for a, b, c, d in self.rows[-1] if c < len(b) and b[c] == token]
        if not items:
            return False
        self.close(items)
        return True

    def pop(self):
        self.rows.pop()

    def is_complete(self):
        return any(a == self.start and c == len(b) and d == 0 for a, b, c, d in self.rows[-1])

    def following(self):
        return sorted({b[c] for _, b, c, _ in self.rows[-1] if c < len(b) and b[c] not in RULES})


def text_of(tokens):
    return " ".join(TEXTS.get(token, token) for token in tokens)


class GrammarTests(unittest.TestCase):
    def check_end(self, reading, chart, tokens):
        """A text that fits so far is read if it is complete, and otherwise malformed at its end."""
        text = text_of(tokens)
        for space in ("", " \n "):
            expected = None if chart.is_complete() else malformed(len(text + space))
            self.assertEqual(fault(reading, text + space), expected, text)

    def check_fault(self, reading, tokens, rest):
        """A text of which the last token does not fit is malformed there, whatever follows."""
        text = text_of(tokens)
        at = len(text) - len(text_of(tokens[-1:]))
        self.assertEqual(fault(reading, text), malformed(at), text)
        self.assertEqual(fault(reading, text + rest), malformed(at), text + rest)

    def check_all(self, reading, chart, tokens, more):
        """Checks the texts that go on with so many tokens more, one token of them wrong at most."""
        self.check_end(reading, chart, tokens)
        if more == 0:
            return
        for token in TOKENS:
            if chart.push(token):
                self.check_all(reading, chart, tokens + [token], more - 1)
                chart.pop()
            else:
                self.check_fault(reading, tokens + [token], " x )")

    def test_all_short_expressions(self):
        self.check_all(read, Chart("expression"), [], 4)

    def test_all_short_types(self):
        self.check_all(read_type, Chart("type"), [], 5)

    def walk(self, reading, start, chance):
        """Checks a long text: goes on with tokens that fit, and tries all others at each place."""
        chart = Chart(start)
        tokens = []
        for _ in range(40):
            following = chart.following()
            if not following:
                break
            for token in TOKENS:
                if token not in following:
                    self.check_fault(reading, tokens + [token], " (")
            tokens.append(chance.choice(following))
            self.assertTrue(chart.push(tokens[-1]))
            self.check_end(reading, chart, tokens)

    def test_long_expressions(self):
        for seed in range(40):
            self.walk(read, "expression", random.Random(seed))

    def test_long_types(self):
        for seed in range(20):
            self.walk(read_type, "type", random.Random(seed))


class Re5Indexes(unittest.TestCase):
    def check(self, cases):
        for text, at in cases.items():
            self.assertEqual(fault(read, text), malformed(at), text)

    def test_a_text_that_ends_too_early(self):
        for text in ("", " ", "\n\n", "fun", "fun x", "fun x :", "fun x : int", "fun x =>", "rec", "rec f", "rec f (",
                     "rec f (x", "rec f (x :", "rec f (x : int", "rec f (x : int)", "rec f (x : int) :",
                     "rec f (x : int) : int", "rec f (x : int) : int =>", "let", "let x", "let x =", "let x = 1",
                     "let x = 1 in", "if", "if x", "if x then", "if x then y", "if x then y else", "print", "print x",
                     "print x ;", "x +", "x -", "x *", "x <", "x ==", "fst", "not", "box", "get", "snd", "put", "put x",
                     "(", "(x", "(x :", "(x : int", "(x : int ->", "(x,", "(x, y", "f (", "f x ("):
            self.check({text: len(text), text + "  ": len(text) + 2, text + "\n": len(text) + 1})

    def test_a_token_that_does_not_fit(self):
        self.check({
            ")": 0, "in": 0, "int": 0, "as": 0, "any": 0, "=>": 0, ": x": 0, "()": 1, "( )": 2, "fun 1 => x": 4,
            "fun fun => x": 4, "fun x -> x": 6, "fun x = x": 6, "fun (x : int) => x": 4, "fun x : 1 => x": 8,
            "fun x : y => x": 8, "rec f x => x": 6, "rec f (x) : int => x": 8, "rec f (x : int) => x": 16,
            "rec (x : int) : int => x": 4, "let x : int = 1 in x": 6, "let x == 1 in x": 6, "let x = 1 ; x": 10,
            "let 1 = x in x": 4, "if x else y": 5, "if x then y": 11, "if x then y then z": 12, "print x , y": 8,
            "print x in y": 8, "x + + y": 4, "x * - y": 4, "- x": 0, "x + - 1": 4, "x = y": 2, "x => y": 2,
            "x -> y": 2, "(x y": 4, "(x : int, y)": 8, "(x, y : int)": 6, "(x, y, z)": 5, "(x ; y)": 3, "(x : y)": 5,
            "(x : int : int)": 9, "((x)": 4, "fst": 3, "fst + x": 4, "not )": 4, "f not x": 2, "f if": 2,
        })

    def test_something_behind_a_complete_expression(self):
        for whole in ("x", "1", "(x, y)", "f x", "x + y", "fun x => x", "let x = y in z", "x < y"):
            for rest in (")", ",", ":", ";", "=", "=>", "->", "in", "then", "else", "as", "int", "any", "fun", "let"):
                self.check({whole + " " + rest: len(whole) + 1, whole + "\n\n" + rest + " x": len(whole) + 2})

    def test_something_behind_a_complete_type(self):
        for whole in ("int", "(int, any)", "box int", "int -> bool", "(int)"):
            for rest in (")", ",", ":", "=>", "int", "box", "(", "x", "1", "in", "any", "+", "true"):
                self.assertEqual(fault(read_type, whole + " " + rest), malformed(len(whole) + 1))
                self.assertEqual(fault(read_type, whole + "\n " + rest + " int"), malformed(len(whole) + 2))

    def test_the_first_of_several_faults(self):
        self.check({"x ) )": 2, "fun => )": 4, ") (": 0, "(x ; y ; z": 3, "let x 1 x": 6})


if __name__ == "__main__":
    unittest.main()
