"""The checks, with values of all kinds and at each bound."""

import unittest

from laterepair.checks import is_age, is_delay, is_integer, is_losses, is_name, is_within
from tests.helpers import ANY, NO_INTEGERS, NO_STRINGS


class TestNumbers(unittest.TestCase):

    def test_integers(self):
        for value in (0, 1, -1, 8, 10 ** 39, -(10 ** 39)):
            self.assertIs(is_integer(value), True, value)
            self.assertIs(is_integer(value=value), True)
        for value in NO_INTEGERS:
            self.assertIs(is_integer(value), False, value)

    def test_within(self):
        for least, most in ((0, 8), (-3, 2), (5, 5), (10 ** 20, 10 ** 30)):
            for value, wanted in ((least - 1, False), (least, True), (most, True), (most + 1, False)):
                self.assertIs(is_within(value, least, most), wanted, (value, least, most))
                self.assertIs(is_within(most=most, least=least, value=value), wanted)
        self.assertIs(is_within(3, 4, 2), False)
        for value in NO_INTEGERS:
            self.assertIs(is_within(value, -10, 10), False, value)

    def test_ages_and_delays(self):
        for check in (is_age, is_delay):
            for value in range(9):
                self.assertIs(check(value), True)
                self.assertIs(check(value=value), True)
            for value in [-1, 9, 10 ** 39, -(10 ** 39), *NO_INTEGERS]:
                self.assertIs(check(value), False, value)


class TestTexts(unittest.TestCase):

    def test_losses(self):
        for value in ("", ".", "x", "..x", "x.x" * 1300, "." * 4000, "xx"):
            self.assertIs(is_losses(value), True)
            self.assertIs(is_losses(value=value), True)
        for value in ("X", "..y", "y..", ".y.", ".\n", "\n.", ".\nx", " ", ". x", ".-x", "0", "..x "):
            self.assertIs(is_losses(value), False, value)
        for letter in [chr(code) for code in range(128) if chr(code) not in ".x"]:
            for value in (letter, letter + ".x", ".x" + letter, "x" + letter + "."):
                self.assertIs(is_losses(value), False, value)
        for value in NO_STRINGS:
            self.assertIs(is_losses(value), False, value)

    def test_names(self):
        for value in ("a", "z", "abcdefgh", "zz", "one", "rule"):
            self.assertIs(is_name(value), True, value)
            self.assertIs(is_name(value=value), True)
        for value in ("", "abcdefghi", "A", "Ab", "aB", "bAb", "a1", "1a", "a1a", "a b", " a", "a ", "a\n", "\na",
                      "a-b", "`", "{", "a_b", "0"):
            self.assertIs(is_name(value), False, value)
        for letter in [chr(code) for code in range(128)]:
            wanted = "a" <= letter <= "z"
            for value in (letter, letter + "a", "a" + letter, "a" + letter + "z"):
                self.assertIs(is_name(value), wanted, value)
        for value in NO_STRINGS:
            self.assertIs(is_name(value), False, value)

    def test_all_answers_are_bools(self):
        for value in ANY:
            for check in (is_integer, is_age, is_delay, is_losses, is_name):
                self.assertIsInstance(check(value), bool)


if __name__ == "__main__":
    unittest.main()
