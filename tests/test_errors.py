"""Points [2] and [4]: the classes of refusals."""

import unittest

from helper import NAMES, check_refused
from hourhouse import errors


def refuse(error):
    raise error("words")


class Errors(unittest.TestCase):
    def test_house_error_is_a_value_error(self):
        self.assertEqual(errors.HouseError.__bases__, (ValueError,))

    def test_each_stands_straight_under_house_error(self):
        for name in NAMES:
            error = getattr(errors, name)
            self.assertEqual(error.__name__, name)
            self.assertEqual(error.__bases__, (errors.HouseError,))

    def test_each_is_caught_as_its_own_and_as_none_of_the_others(self):
        for name in NAMES:
            with self.subTest(name):
                check_refused(self, getattr(errors, name), refuse, getattr(errors, name))

    def test_house_error_is_none_of_them(self):
        for name in NAMES:
            self.assertNotIsInstance(errors.HouseError("words"), getattr(errors, name))
