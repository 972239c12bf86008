"""Texts as expressions and types, by recursive descent through the grammar."""

from halfnoted.errors import Malformed, Unbounded
from halfnoted.tokens import tokenize

MOST_DEPTH = 60
PLAIN_KINDS = ("int", "bool", "unit", "any")
PREFIXES = ("fst", "snd", "box", "get", "not")
UNWRITTEN = (("any",), 1)


def read(text):
    """The expression that a text is."""
    reader = Reader(text)
    tree, _ = reader.read_expression()
    reader.finish()
    return tree


def read_type(text):
    """The type that a text is."""
    reader = Reader(text)
    tree, _ = reader.read_annotation()
    reader.finish()
    return tree


def leaf(*tree):
    """An expression or a type that has none inside, with its depth."""
    return tree, 1


def built(head, *inner):
    """The tree of a head and of what is directly inside, which are pairs (tree, depth), with its depth."""
    depth = 1 + max([deep for tree, deep in inner])
    if depth > MOST_DEPTH:
        raise Unbounded("depth")
    return head + tuple([tree for tree, deep in inner]), depth


class Reader:
    """The tokens of a text, how many of them are read, and how many counted parts of the grammar are open.

    Each method that is called read_.. reads a part of the grammar and returns the pair (tree, depth).
    """

    def __init__(self, text):
        self.tokens = tokenize(text)
        # No part of the grammar takes this token, so it is the one that does not fit if a text ends too early.
        self.tokens.append(("end", "", len(text)))
        self.done = 0
        self.opened = 0

    def sees(self, *values):
        """Is the next token one of these words and signs?"""
        return self.tokens[self.done][1] in values

    def take(self, *values):
        """Reads the next token, which must be one of these words and signs, and returns its value."""
        if not self.sees(*values):
            self.refuse()
        self.done += 1
        return self.tokens[self.done - 1][1]

    def skips(self, value):
        """Reads the next token if it is this word or sign, and tells if it was."""
        found = self.sees(value)
        if found:
            self.done += 1
        return found

    def take_name(self):
        """Reads the next token, which must be a name, and returns the name."""
        kind, value, _ = self.tokens[self.done]
        if kind != "name":
            self.refuse()
        self.done += 1
        return value

    def refuse(self):
        """Refuses the next token, which does not fit."""
        raise Malformed(self.tokens[self.done][2])

    def finish(self):
        """Refuses a text that goes on."""
        if self.tokens[self.done][0] != "end":
            self.refuse()

    def enter(self):
        """Opens a counted part of the grammar."""
        if self.opened == MOST_DEPTH:
            raise Unbounded("depth")
        self.opened += 1

    def leave(self):
        """Closes a counted part of the grammar."""
        self.opened -= 1

    def read_expression(self):
        self.enter()
        if self.skips("fun"):
            found = self.read_fun()
        elif self.skips("rec"):
            found = self.read_rec()
        elif self.skips("let"):
            found = self.read_let()
        elif self.skips("if"):
            found = self.read_if()
        elif self.skips("print"):
            found = self.read_print()
        else:
            found = self.read_comparison()
        self.leave()
        return found

    def read_fun(self):
        name = self.take_name()
        given = UNWRITTEN
        if self.skips(":"):
            given = self.read_annotation()
        self.take("=>")
        body = self.read_expression()
        return built(("fun", name), given, body)

    def read_rec(self):
        own = self.take_name()
        self.take("(")
        name = self.take_name()
        self.take(":")
        given = self.read_annotation()
        self.take(")")
        self.take(":")
        result = self.read_annotation()
        self.take("=>")
        body = self.read_expression()
        return built(("rec", own, name), given, result, body)

    def read_let(self):
        name = self.take_name()
        self.take("=")
        bound = self.read_expression()
        self.take("in")
        body = self.read_expression()
        return built(("let", name), bound, body)

    def read_if(self):
        condition = self.read_expression()
        self.take("then")
        first = self.read_expression()
        self.take("else")
        second = self.read_expression()
        return built(("if",), condition, first, second)

    def read_print(self):
        printed = self.read_sum()
        self.take(";")
        body = self.read_expression()
        return built(("print",), printed, body)

    def read_comparison(self):
        left = self.read_sum()
        if not self.sees("<", "=="):
            return left
        sign = self.take("<", "==")
        right = self.read_sum()
        return built(("op", sign), left, right)

    def read_sum(self):
        left = self.read_product()
        while self.sees("+", "-"):
            sign = self.take("+", "-")
            right = self.read_product()
            left = built(("op", sign), left, right)
        return left

    def read_product(self):
        left = self.read_prefix()
        while self.skips("*"):
            right = self.read_prefix()
            left = built(("op", "*"), left, right)
        return left

    def read_prefix(self):
        self.enter()
        if self.sees(*PREFIXES):
            word = self.take(*PREFIXES)
            operand = self.read_prefix()
            found = built((word,), operand)
        elif self.skips("put"):
            target = self.read_atom()
            stored = self.read_atom()
            found = built(("put",), target, stored)
        else:
            found = self.read_call()
        self.leave()
        return found

    def read_call(self):
        called = self.read_atom()
        while self.sees_atom():
            passed = self.read_atom()
            called = built(("call",), called, passed)
        return called

    def sees_atom(self):
        """Can the next token begin an atom?"""
        kind = self.tokens[self.done][0]
        return kind in ("number", "name") or self.sees("true", "false", "unit", "(")

    def read_atom(self):
        if not self.sees_atom():
            self.refuse()
        kind, value, _ = self.tokens[self.done]
        self.done += 1
        if kind == "number":
            return leaf("num", value)
        if kind == "name":
            return leaf("name", value)
        if value == "unit":
            return leaf("unit")
        if value == "(":
            return self.read_group()
        return leaf("flag", value == "true")

    def read_group(self):
        """Reads what stands behind a parenthesis in an expression."""
        found = self.read_expression()
        if self.skips(":"):
            given = self.read_annotation()
            self.take(")")
            return built(("as",), found, given)
        if self.skips(","):
            second = self.read_expression()
            self.take(")")
            return built(("pair",), found, second)
        self.take(")")
        return found

    def read_annotation(self):
        """Reads what the grammar calls a type."""
        first = self.read_simple()
        if not self.skips("->"):
            return first
        self.enter()
        second = self.read_annotation()
        self.leave()
        return built(("fun",), first, second)

    def read_simple(self):
        self.enter()
        if self.skips("box"):
            found = built(("box",), self.read_simple())
        elif self.skips("("):
            found = self.read_annotation_group()
        else:
            found = leaf(self.take(*PLAIN_KINDS))
        self.leave()
        return found

    def read_annotation_group(self):
        """Reads what stands behind a parenthesis in a type."""
        first = self.read_annotation()
        if not self.skips(","):
            self.take(")")
            return first
        second = self.read_annotation()
        self.take(")")
        return built(("pair",), first, second)
