"""Point [2]: what a name is."""

import string
import unittest

from hourhouse.names import is_name


class Names(unittest.TestCase):
    def test_names(self):
        for text in ("a", "z", "a0", "z9", "ann", "room12", "abcdefgh", "a1234567"):
            self.assertIs(is_name(text), True, text)

    def test_length(self):
        for length in range(0, 20):
            self.assertIs(is_name("b" * length), 1 <= length <= 8)
            self.assertIs(is_name("b" + "7" * length), length <= 7)

    def test_each_sign_as_the_first(self):
        for number in range(0, 256):
            sign = chr(number)
            self.assertIs(is_name(sign), sign in string.ascii_lowercase, repr(sign))
            self.assertIs(is_name(sign + "a"), sign in string.ascii_lowercase, repr(sign))

    def test_each_sign_behind_the_first(self):
        good = string.ascii_lowercase + string.digits
        for number in range(0, 256):
            sign = chr(number)
            self.assertIs(is_name("a" + sign), sign in good, repr(sign))
            self.assertIs(is_name("a" + sign + "b"), sign in good, repr(sign))
            self.assertIs(is_name("abcdefg" + sign), sign in good, repr(sign))

    def test_no_names(self):
        for text in ("", " ", "A", "Ann", "aNn", "1a", "a b", " a", "a ", "a\n", "\na", "a\t", "a_b", "a-b", "a/0"):
            self.assertIs(is_name(text), False, repr(text))
