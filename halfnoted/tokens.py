"""Texts as lists of tokens (kind, value, at)."""

from halfnoted.errors import Malformed, Unbounded

WORDS = (
    "any", "as", "bool", "box", "else", "false", "fst", "fun", "get", "if", "in",
    "int", "let", "not", "print", "put", "rec", "snd", "then", "true", "unit",
)

# The longer signs stand first: the first one that fits is then the longest one.
SIGNS = ("=>", "->", "==", "(", ")", ",", ":", ";", "=", "+", "-", "*", "<")

SEPARATORS = " \n"
LETTERS = "abcdefghijklmnopqrstuvwxyz"
DIGITS = "0123456789"
NAME_CHARACTERS = "abcdefghijklmnopqrstuvwxyz0123456789_"

MOST_CHARACTERS = 10000
MOST_NAME_CHARACTERS = 20
MOST_DIGITS = 10
NUMBERS_END = 2 ** 31


def tokenize(text):
    """The list of the tokens of a text, in order."""
    if len(text) > MOST_CHARACTERS:
        raise Unbounded("text")
    tokens = []
    at = 0
    while at < len(text):
        if text[at] in SEPARATORS:
            at += 1
        else:
            token, at = token_at(text, at)
            tokens.append(token)
    return tokens


def token_at(text, at):
    """The token that begins at an index, and the index behind it."""
    if text[at] in LETTERS:
        return name_at(text, at)
    if text[at] in DIGITS:
        return number_at(text, at)
    return sign_at(text, at)


def name_at(text, at):
    """The word or the name that begins at an index, and the index behind it."""
    end = run_end(text, at, NAME_CHARACTERS)
    name = text[at:end]
    if name in WORDS:
        return ("word", name, at), end
    if len(name) > MOST_NAME_CHARACTERS:
        raise Malformed(at)
    return ("name", name, at), end


def number_at(text, at):
    """The number that begins at an index, and the index behind it."""
    end = run_end(text, at, DIGITS)
    digits = text[at:end]
    # The length is looked at before the value, because Python does not convert thousands of digits.
    if len(digits) > MOST_DIGITS or int(digits) >= NUMBERS_END:
        raise Malformed(at)
    if digits[0] == "0" and len(digits) > 1:
        raise Malformed(at)
    # A digit cannot follow here, so what follows and could stand in a name is a letter or an underscore.
    if end < len(text) and text[end] in NAME_CHARACTERS:
        raise Malformed(at)
    return ("number", int(digits), at), end


def sign_at(text, at):
    """The longest sign that begins at an index, and the index behind it."""
    for sign in SIGNS:
        if text.startswith(sign, at):
            return ("sign", sign, at), at + len(sign)
    raise Malformed(at)


def run_end(text, at, characters):
    """The index behind the longest run of these characters that begins at an index."""
    end = at
    while end < len(text) and text[end] in characters:
        end += 1
    return end
