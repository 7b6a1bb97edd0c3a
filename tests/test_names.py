"""Point 2: whole numbers and names."""

import copy
import string
import unittest

from whencewise.names import is_name, is_whole

SIXTY = int("9" * 60)
LETTERS = "abcdefghijklmnopqrstuvwxyz"
FIGURES = "0123456789"
# Signs that no name has; those beyond ~ are there as isalpha, isdigit and lower-case folding take some of them.
OTHERS = [chr(code) for code in range(0, 128) if chr(code) not in LETTERS + FIGURES] + [
    "\u00e4", "\u00df", "\u00b2", "\u0663", "\u0430", "\uff41", "\uff11", "\u2028", "\u0085", "\ud800",
]


class WholeNumbers(unittest.TestCase):
    def test_numbers_of_either_sign(self):
        for number in [0, 1, -1, 2, 7, -7, 40, 2 ** 31, -2 ** 63, 2 ** 64, SIXTY, -SIXTY, 10 ** 59, 10 ** 5000]:
            with self.subTest(bits=number.bit_length()):
                self.assertIs(is_whole(number), True)

    def test_anything_else(self):
        things = [
            True, False, None, "", "0", "1", "-1", "12", "a", " 1", "1" * 60, b"", b"1", [], [1], (), (1,), {},
            {1: 1}, {"a": 1}, set(), {1}, frozenset([1]), range(3), object(), int, len, is_whole, ..., NotImplemented,
        ]
        for thing in things:
            with self.subTest(thing=repr(thing)):
                self.assertIs(is_whole(thing), False)


class Names(unittest.TestCase):
    def test_lengths(self):
        for length in range(0, 45):
            with self.subTest(length=length):
                self.assertIs(is_name("a" * length), 1 <= length <= 40)
        self.assertIs(is_name("a" * 10000), False)

    def test_each_letter_by_itself_and_no_figure(self):
        for letter in LETTERS:
            self.assertIs(is_name(letter), True)
        for figure in FIGURES:
            self.assertIs(is_name(figure), False)

    def test_ordinary_names(self):
        for text in ["a", "z", "ann", "a0", "z9", "a1b2", "b52", "none", "x0123456789", LETTERS, LETTERS + FIGURES]:
            with self.subTest(text=text):
                self.assertIs(is_name(text), True)

    def test_each_sign_behind_the_first_place(self):
        for sign in LETTERS + FIGURES:
            with self.subTest(sign=sign):
                self.assertIs(is_name("q" + sign), True)
                self.assertIs(is_name("q" + sign + "q"), True)
                self.assertIs(is_name("q" * 39 + sign), True)

    def test_figure_first(self):
        for figure in FIGURES:
            for text in [figure + "a", figure + "1", figure + "a" * 39]:
                with self.subTest(text=text):
                    self.assertIs(is_name(text), False)

    def test_capital_letters(self):
        for letter in string.ascii_uppercase:
            for text in [letter, letter + "nn", "a" + letter + "n", "an" + letter]:
                with self.subTest(text=text):
                    self.assertIs(is_name(text), False)

    def test_other_signs_at_every_place(self):
        for sign in OTHERS:
            for text in [sign, sign + "ab", "a" + sign + "b", "ab" + sign, "a" * 39 + sign, sign + "a" * 39]:
                with self.subTest(text=ascii(text)):
                    self.assertIs(is_name(text), False)

    def test_line_ends_and_blanks_round_a_name(self):
        for text in ["ann\n", "ann\r", "ann\r\n", "ann\t", "ann ", "\nann", " ann", "\tann", "an n", "an\nn", "\n", " "]:
            with self.subTest(text=ascii(text)):
                self.assertIs(is_name(text), False)

    def test_no_text(self):
        things = [
            0, 1, -1, SIXTY, True, False, None, [], (), {}, ["a"], ("a",), {"a": "a"}, {"a"}, ["a", "b"], ("a", "b"),
            [["a"]], b"a", b"", frozenset(["a"]), object(), str, is_name, ...,
        ]
        for thing in things:
            with self.subTest(thing=repr(thing)):
                self.assertIs(is_name(thing), False)


class HandedIn(unittest.TestCase):
    def test_nothing_is_changed(self):
        for ask in [is_whole, is_name]:
            for thing in [["a", 1], {"a": [1]}, ("a", ["b"]), {"a"}, [], {}, ["ann"], [[], {}]]:
                with self.subTest(ask=ask.__name__, thing=repr(thing)):
                    before = copy.deepcopy(thing)
                    ask(thing)
                    self.assertEqual(thing, before)


if __name__ == "__main__":
    unittest.main()
