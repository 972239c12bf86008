"""Expressions and types as texts.

The texts are as short as the grammar allows: a space stands only between two tokens that would be read as one, and
parentheses stand only where the grammar asks for them. Reading has limits for the length of a text and for what is
open at the same time, so longer texts of the same expressions might not be read back.
"""

from halfnoted.tokens import NAME_CHARACTERS
from halfnoted.types import ANY

# The parts of the grammar that expressions are. What one of them takes, those before it take as well.
GRAMMAR = ("expression", "comparison", "sum", "product", "prefix", "call", "atom")

# Which part of the grammar a form is; those that are not here are atoms.
LEVELS = {
    "fun": "expression", "rec": "expression", "let": "expression", "if": "expression", "print": "expression",
    "fst": "prefix", "snd": "prefix", "box": "prefix", "get": "prefix", "not": "prefix", "put": "prefix",
    "call": "call",
}

# Which part of the grammar an operator makes, and which ones it takes on its left and on its right.
OPERATORS = {
    "<": ("comparison", "sum", "sum"),
    "==": ("comparison", "sum", "sum"),
    "+": ("sum", "sum", "product"),
    "-": ("sum", "sum", "product"),
    "*": ("product", "product", "prefix"),
}


def show(expression):
    """The text of an expression."""
    return joined(bare_tokens(expression))


def show_type(a_type):
    """The text of a type."""
    return joined(type_tokens(a_type))


def joined(tokens):
    """The text of a list of tokens, which are strings that are not empty."""
    pieces = []
    last = "("
    for token in tokens:
        if last[-1] in NAME_CHARACTERS and token[0] in NAME_CHARACTERS:
            pieces.append(" ")
        pieces.append(token)
        last = token
    return "".join(pieces)


def tokens_at(level, expression):
    """The tokens of an expression in the place of a part of the grammar."""
    tokens = bare_tokens(expression)
    if GRAMMAR.index(level_of(expression)) < GRAMMAR.index(level):
        return ["(", *tokens, ")"]
    return tokens


def level_of(expression):
    """Which part of the grammar an expression is without parentheses around it."""
    if expression[0] == "op":
        return OPERATORS[expression[1]][0]
    return LEVELS.get(expression[0], "atom")


def bare_tokens(expression):
    """The tokens of an expression without parentheses around it, as where any expression may stand."""
    match expression:
        case ("num", number):
            return [str(number)]
        case ("flag", flag):
            return ["true" if flag else "false"]
        case ("unit",):
            return ["unit"]
        case ("name", name):
            return [name]
        case ("call", called, passed):
            return tokens_at("call", called) + tokens_at("atom", passed)
        case ("op", sign, left, right):
            _, left_level, right_level = OPERATORS[sign]
            return [*tokens_at(left_level, left), sign, *tokens_at(right_level, right)]
        case ("put", box, stored):
            return ["put", *tokens_at("atom", box), *tokens_at("atom", stored)]
        case (word, operand):
            return [word, *tokens_at("prefix", operand)]
        case _:
            return long_tokens(expression)


def long_tokens(expression):
    """The tokens of a form that takes any expressions as its parts, but for what is printed."""
    match expression:
        case ("fun", name, given, body):
            return ["fun", name, *unless_any(given), "=>", *bare_tokens(body)]
        case ("rec", own, name, given, result, body):
            head = ["rec", own, "(", name, ":", *type_tokens(given), ")", ":", *type_tokens(result)]
            return [*head, "=>", *bare_tokens(body)]
        case ("let", name, bound, body):
            return ["let", name, "=", *bare_tokens(bound), "in", *bare_tokens(body)]
        case ("if", condition, first, second):
            return ["if", *bare_tokens(condition), "then", *bare_tokens(first), "else", *bare_tokens(second)]
        case ("print", printed, body):
            return ["print", *tokens_at("sum", printed), ";", *bare_tokens(body)]
        case ("pair", first, second):
            return ["(", *bare_tokens(first), ",", *bare_tokens(second), ")"]
        case ("as", annotated, given):
            return ["(", *bare_tokens(annotated), ":", *type_tokens(given), ")"]


def unless_any(given):
    """The tokens of the annotation of fun, which is left out if it is any."""
    if given == ANY:
        return []
    return [":", *type_tokens(given)]


def type_tokens(a_type):
    """The tokens of a type."""
    match a_type:
        case ("fun", given, result):
            return [*simple_tokens(given), "->", *type_tokens(result)]
        case ("pair", first, second):
            return ["(", *type_tokens(first), ",", *type_tokens(second), ")"]
        case ("box", held):
            return ["box", *simple_tokens(held)]
        case (word,):
            return [word]


def simple_tokens(a_type):
    """The tokens of a type where the grammar asks for a simple one."""
    if a_type[0] == "fun":
        return ["(", *type_tokens(a_type), ")"]
    return type_tokens(a_type)
