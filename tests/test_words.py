"""[0.7]: names; [0.1]: integers."""

import unittest

from postedbag.base.words import ascends, is_index, is_integer, is_name
from tests.samples import HUGE, odd_values


class NamesTest(unittest.TestCase):
    def test_lengths(self):
        for length in range(12):
            self.assertIs(is_name("b" * length), 1 <= length <= 8, length)
        self.assertIs(is_name("a" * 10 ** 6), False)

    def test_letters(self):
        for letter in "abcdefghijklmnopqrstuvwxyz":
            self.assertIs(is_name(letter), True)
            self.assertIs(is_name("x" + letter * 7), True)

    def test_other_signs(self):
        others = [chr(code) for code in range(0x250) if not 97 <= code <= 122]
        for sign in others:
            for text in (sign, "a" + sign, sign + "a", "ab" + sign + "cd"):
                self.assertIs(is_name(text), False, repr(text))

    def test_capitals_digits_blanks(self):
        for text in ("A", "Src", "srC", "a1", "1", "0a", " ", " a", "a ", "a b", "a\n", "\na", "a_b", "a-b", "`", "{"):
            self.assertIs(is_name(text), False, repr(text))

    def test_values_of_other_kinds(self):
        for value in odd_values():
            self.assertIs(is_name(value), False, repr(value))
        for value in (b"src", ("s", "r", "c"), ["a"], {"a": "a"}, ("a",)):
            self.assertIs(is_name(value), False, repr(value))


class IntegersTest(unittest.TestCase):
    def test_integers(self):
        for value in (0, 1, -1, HUGE, -HUGE):
            self.assertIs(is_integer(value), True)
        for value in (True, False, None, "0", (0,), [0], {0: 0}):
            self.assertIs(is_integer(value), False)

    def test_indices(self):
        self.assertEqual([is_index(value, 2) for value in (-1, 0, 1, 2, HUGE)], [False, True, True, False, False])
        for value in (True, False, None, "0", (0,)):
            self.assertIs(is_index(value, 2), False)

    def test_order(self):
        self.assertEqual([ascends(items) for items in ((), (4,), (0, 1, 3), (0, 0), (1, 0), (0, 2, 1))],
                         [True, True, True, False, False, False])


if __name__ == "__main__":
    unittest.main()
