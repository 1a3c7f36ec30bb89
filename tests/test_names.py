import unittest

from relinktree.names import is_host_name, is_word
from tests.support import LISTS, OTHER_KINDS, TUPLES, WRONG_NAMES

LETTERS = "abcdefghijklmnopqrstuvwxyz"
DIGITS = "0123456789"


class HostNames(unittest.TestCase):
    def test_every_letter(self):
        for letter in LETTERS:
            self.assertIs(is_host_name(letter), True)
            self.assertIs(is_host_name("a" + letter + "a"), True)

    def test_lengths(self):
        for length in range(30):
            self.assertIs(is_host_name("z" * length), 1 <= length <= 8)

    def test_every_other_character(self):
        for code in range(0x3000):
            character = chr(code)
            expected = character in LETTERS
            self.assertIs(is_host_name(character), expected)
            self.assertIs(is_host_name("a" + character), expected)
            self.assertIs(is_host_name(character + "a"), expected)

    def test_wrong_strings(self):
        for value in WRONG_NAMES:
            self.assertIs(is_host_name(value), False, value)

    def test_values_of_other_kinds(self):
        for value in OTHER_KINDS + LISTS + TUPLES:
            self.assertIs(is_host_name(value), False)


class Words(unittest.TestCase):
    def test_every_letter_and_digit(self):
        for character in LETTERS + DIGITS:
            self.assertIs(is_word(character), True)
            self.assertIs(is_word("a" + character + "9"), True)

    def test_lengths(self):
        for length in range(30):
            self.assertIs(is_word("z" * length), 1 <= length <= 12)
            self.assertIs(is_word("0" * length), 1 <= length <= 12)

    def test_every_other_character(self):
        for code in range(0x3000):
            character = chr(code)
            expected = character in LETTERS + DIGITS
            self.assertIs(is_word(character), expected)
            self.assertIs(is_word("a" + character), expected)
            self.assertIs(is_word(character + "1"), expected)

    def test_wrong_strings(self):
        wrong = ["", " ", "A", "hI", "a b", "a\n", "1\n", "\n", "-1", "a_", "abcdefghijklm", "/", ":", "`", "{"]
        other_digits = ["\u0661", "\u00b2", "\uff11"]
        for value in wrong + other_digits:
            self.assertIs(is_word(value), False, value)

    def test_values_of_other_kinds(self):
        for value in OTHER_KINDS + LISTS + TUPLES:
            self.assertIs(is_word(value), False)
