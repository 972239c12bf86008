import string
import unittest

from halfnoted.tokens import WORDS, tokenize
from support import fault, malformed, unbounded

ALL_WORDS = (
    "any as bool box else false fst fun get if in int let not print put rec snd then true unit"
).split()
ALL_SIGNS = ("=>", "->", "==", "(", ")", ",", ":", ";", "=", "+", "-", "*", "<")


class Tk1Words(unittest.TestCase):
    def test_the_words_stand_in_their_order(self):
        self.assertEqual(WORDS, tuple(ALL_WORDS))
        self.assertIs(type(WORDS), tuple)

    def test_each_word(self):
        for word in ALL_WORDS:
            self.assertEqual(tokenize(word), [("word", word, 0)])

    def test_each_word_behind_and_before_others(self):
        for word in ALL_WORDS:
            self.assertEqual(tokenize("(" + word + ")"), [("sign", "(", 0), ("word", word, 1),
                                                          ("sign", ")", 1 + len(word))])

    def test_a_word_with_more_behind_it_is_a_name(self):
        for word in ALL_WORDS:
            for more in ("s", "_", "0"):
                self.assertEqual(tokenize(word + more), [("name", word + more, 0)])

    def test_a_beginning_of_a_word_is_a_name(self):
        for word in ALL_WORDS:
            if word[:-1] not in ALL_WORDS:
                self.assertEqual(tokenize(word[:-1]), [("name", word[:-1], 0)])


class Tk1Names(unittest.TestCase):
    def test_each_letter(self):
        for letter in string.ascii_lowercase:
            self.assertEqual(tokenize(letter), [("name", letter, 0)])

    def test_what_follows_the_letter(self):
        for character in string.ascii_lowercase + string.digits + "_":
            self.assertEqual(tokenize("q" + character), [("name", "q" + character, 0)])

    def test_a_name_takes_as_many_characters_as_there_are(self):
        self.assertEqual(tokenize("x1_y__2z+x"), [("name", "x1_y__2z", 0), ("sign", "+", 8), ("name", "x", 9)])

    def test_twenty_characters(self):
        for name in ("a" * 20, "a" + "_" * 19, "a" + "9" * 19, "a" * 19):
            self.assertEqual(tokenize(name), [("name", name, 0)])

    def test_names_of_twenty_characters_beside_others(self):
        self.assertEqual(tokenize("b" * 20 + " " + "c" * 20), [("name", "b" * 20, 0), ("name", "c" * 20, 21)])


class Tk1Numbers(unittest.TestCase):
    def test_numbers(self):
        for number in (0, 1, 9, 10, 42, 100, 1000000000, 2147483646, 2147483647):
            self.assertEqual(tokenize(str(number)), [("number", number, 0)])

    def test_each_digit(self):
        for digit in range(10):
            self.assertEqual(tokenize(str(digit)), [("number", digit, 0)])
            self.assertEqual(tokenize("1" + str(digit)), [("number", 10 + digit, 0)])

    def test_a_number_is_an_integer(self):
        self.assertIs(type(tokenize("1")[0][1]), int)

    def test_a_sign_may_follow_a_number(self):
        self.assertEqual(tokenize("0+1"), [("number", 0, 0), ("sign", "+", 1), ("number", 1, 2)])

    def test_a_minus_is_a_token_of_its_own(self):
        self.assertEqual(tokenize("-5"), [("sign", "-", 0), ("number", 5, 1)])
        self.assertEqual(tokenize("3-5"), [("number", 3, 0), ("sign", "-", 1), ("number", 5, 2)])

    def test_zeros_apart(self):
        self.assertEqual(tokenize("0 0"), [("number", 0, 0), ("number", 0, 2)])


class Tk1Signs(unittest.TestCase):
    def test_each_sign(self):
        for sign in ALL_SIGNS:
            self.assertEqual(tokenize(sign), [("sign", sign, 0)])
            self.assertEqual(tokenize("x" + sign + "1"),
                             [("name", "x", 0), ("sign", sign, 1), ("number", 1, 1 + len(sign))])

    def test_the_longest_sign_that_fits(self):
        cases = {
            "===": ["==", "="], "====": ["==", "=="], "=>=": ["=>", "="], "==->": ["==", "->"],
            "-->": ["-", "->"], "=->": ["=", "->"], "<-": ["<", "-"], "<->": ["<", "->"], "<=": ["<", "="],
            "<=>": ["<", "=>"], ":=": [":", "="], "->->": ["->", "->"], "+-*": ["+", "-", "*"],
            "->=>": ["->", "=>"], "((": ["(", "("], "),": [")", ","], ";;": [";", ";"],
        }
        for text, signs in cases.items():
            self.assertEqual([(kind, value) for kind, value, _ in tokenize(text)], [("sign", s) for s in signs])

    def test_all_pairs_of_signs_apart_and_together(self):
        for one in ALL_SIGNS:
            for other in ALL_SIGNS:
                apart = tokenize(one + " " + other)
                self.assertEqual(apart, [("sign", one, 0), ("sign", other, len(one) + 1)])
                if one + other[0] not in ALL_SIGNS:
                    together = tokenize(one + other)
                    self.assertEqual(together, [("sign", one, 0), ("sign", other, len(one))])


class Tk2Separators(unittest.TestCase):
    def test_nothing(self):
        for text in ("", " ", "\n", " \n \n\n  "):
            self.assertEqual(tokenize(text), [])

    def test_one_and_many_between_tokens(self):
        for gap in (" ", "\n", "  ", "\n\n", " \n", "\n ", " \n \n "):
            self.assertEqual(tokenize("f" + gap + "12" + gap + "let"),
                             [("name", "f", 0), ("number", 12, 1 + len(gap)), ("word", "let", 3 + 2 * len(gap))])

    def test_at_both_ends(self):
        for gap in (" ", "\n", "   ", "\n \n"):
            self.assertEqual(tokenize(gap + "x" + gap), [("name", "x", len(gap))])

    def test_none_where_none_is_needed(self):
        self.assertEqual(tokenize("f(x,1)"), [("name", "f", 0), ("sign", "(", 1), ("name", "x", 2),
                                              ("sign", ",", 3), ("number", 1, 4), ("sign", ")", 5)])

    def test_a_separator_ends_names_numbers_and_signs(self):
        self.assertEqual(tokenize("a b"), [("name", "a", 0), ("name", "b", 2)])
        self.assertEqual(tokenize("1\n2"), [("number", 1, 0), ("number", 2, 2)])
        self.assertEqual(tokenize("= ="), [("sign", "=", 0), ("sign", "=", 2)])
        self.assertEqual(tokenize("-\n-"), [("sign", "-", 0), ("sign", "-", 2)])

    def test_ten_thousand_characters(self):
        self.assertEqual(tokenize(" " * 10000), [])
        self.assertEqual(tokenize(" " * 9999 + "x"), [("name", "x", 9999)])
        self.assertEqual(len(tokenize("+" * 10000)), 10000)
        self.assertEqual(len(tokenize("x " * 5000)), 5000)

    def test_one_character_more(self):
        for text in (" " * 10001, "x" + " " * 10000, "+" * 10001, "x\n" * 5000 + " ", " " * 50000):
            self.assertEqual(fault(tokenize, text), unbounded("text"))


class Tk3Errors(unittest.TestCase):
    def test_any_other_character(self):
        used = string.ascii_lowercase + string.digits + " \n(),:;=+-*<>_"
        others = [chr(code) for code in range(128) if chr(code) not in used]
        self.assertEqual(len(others), 78)
        for other in others:
            self.assertEqual(fault(tokenize, other), malformed(0))
            for before in ("f", "7", "+", " ", "fun"):
                self.assertEqual(fault(tokenize, before + other + "x"), malformed(len(before)))

    def test_characters_that_only_some_signs_have(self):
        self.assertEqual(fault(tokenize, ">"), malformed(0))
        self.assertEqual(fault(tokenize, "= >"), malformed(2))
        self.assertEqual(fault(tokenize, "==>"), malformed(2))
        self.assertEqual(fault(tokenize, "=>>"), malformed(2))
        self.assertEqual(fault(tokenize, "x >= 1"), malformed(2))

    def test_tabs_and_returns_do_not_separate(self):
        self.assertEqual(fault(tokenize, "x\ty"), malformed(1))
        self.assertEqual(fault(tokenize, "x\r\n"), malformed(1))

    def test_a_name_does_not_begin_with_an_underscore_or_a_capital(self):
        self.assertEqual(fault(tokenize, "x + _y"), malformed(4))
        self.assertEqual(fault(tokenize, "x + Y"), malformed(4))
        self.assertEqual(fault(tokenize, "xY"), malformed(1))

    def test_a_name_that_is_too_long(self):
        for name in ("a" * 21, "a" + "_" * 20, "a" + "0" * 20, "b" * 100, "fun" * 7):
            self.assertEqual(fault(tokenize, name), malformed(0))
            self.assertEqual(fault(tokenize, "let\n" + name + " x"), malformed(4))

    def test_a_number_that_is_too_large(self):
        for number in (2147483648, 2147483649, 4294967296, 9999999999, 10000000000, 10 ** 30):
            self.assertEqual(fault(tokenize, str(number)), malformed(0))
            self.assertEqual(fault(tokenize, "x - " + str(number)), malformed(4))

    def test_a_number_of_very_many_digits(self):
        for many in (4300, 4301, 9998):
            self.assertEqual(fault(tokenize, "x " + "9" * many), malformed(2))
            self.assertEqual(fault(tokenize, "x " + "0" * many), malformed(2))

    def test_a_leading_zero(self):
        for number in ("00", "01", "07", "000", "0123", "02147483647", "00000000000000000001"):
            self.assertEqual(fault(tokenize, number), malformed(0))
            self.assertEqual(fault(tokenize, "(" + number + ")"), malformed(1))

    def test_a_number_that_a_letter_or_an_underscore_follows(self):
        for letter in string.ascii_lowercase + "_":
            for number in ("0", "5", "10", "2147483647"):
                self.assertEqual(fault(tokenize, number + letter), malformed(0))
                self.assertEqual(fault(tokenize, "f " + number + letter + " 1"), malformed(2))

    def test_faults_of_a_number_together(self):
        self.assertEqual(fault(tokenize, " 00x"), malformed(1))
        self.assertEqual(fault(tokenize, " 99999999999x"), malformed(1))

    def test_the_first_token_that_is_not_well_formed(self):
        faults = ("$", "a" * 21, "2147483648", "07", "1x")
        for one in faults:
            for other in faults:
                self.assertEqual(fault(tokenize, "f ( " + one + " + " + other), malformed(4))

    def test_a_text_that_is_too_long_and_has_other_faults(self):
        self.assertEqual(fault(tokenize, "$" + " " * 10000), unbounded("text"))
        self.assertEqual(fault(tokenize, "x" * 10001), unbounded("text"))
        self.assertEqual(fault(tokenize, "$" + " " * 9999), malformed(0))
        self.assertEqual(fault(tokenize, "x" * 10000), malformed(0))


class Examples(unittest.TestCase):
    def test_the_examples_of_the_interface(self):
        self.assertEqual(tokenize("fun x=>x+10"), [
            ('word', 'fun', 0), ('name', 'x', 4), ('sign', '=>', 5), ('name', 'x', 7), ('sign', '+', 8),
            ('number', 10, 9)])
        self.assertEqual(fault(tokenize, "x 07"), malformed(2))

    def test_the_kinds_of_the_values(self):
        tokens = tokenize("fun x => 1")
        self.assertIs(type(tokens), list)
        self.assertEqual({type(token) for token in tokens}, {tuple})

    def test_two_calls_share_no_list(self):
        first = tokenize("x y")
        first.clear()
        self.assertEqual(len(tokenize("x y")), 2)


if __name__ == "__main__":
    unittest.main()
