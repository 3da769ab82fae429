"""0.4 and the refusals of the interface."""

import unittest

from wishdues import errors
from wishdues.errors import WishError

OF_TEXT = ("NoNames", "NoClash", "NoPeace", "NotPlain", "NoWish", "NothingDone", "NoRow", "NoBook", "NoName")
OF_NUMBER = ("BadRule", "BadMust", "BadWish", "NoDue", "NoPour", "NoText")


class Refusals(unittest.TestCase):

    def test_wish_error_is_straight_beneath_value_error(self):
        self.assertEqual(WishError.__bases__, (ValueError,))
        self.assertEqual(str(WishError("why")), "why")

    def test_there_are_fifteen(self):
        found = {name for name, thing in vars(errors).items() if isinstance(thing, type)}
        self.assertEqual(found, {"WishError", *OF_TEXT, *OF_NUMBER})

    def test_each_is_straight_beneath_wish_error_and_no_other_one(self):
        for name in OF_TEXT + OF_NUMBER:
            with self.subTest(name):
                self.assertEqual(getattr(errors, name).__bases__, (WishError,))

    def test_those_of_a_text_are_made_of_one(self):
        for name in OF_TEXT:
            with self.subTest(name):
                with self.assertRaises(WishError) as caught:
                    raise getattr(errors, name)("why it is so")
                self.assertEqual(str(caught.exception), "why it is so")
                self.assertFalse(hasattr(caught.exception, "at"))

    def test_those_of_a_number_bear_it_as_at(self):
        for name in OF_NUMBER:
            for at in (0, 1, -1, 24, -7, int("9" * 60), -int("8" * 60)):
                with self.subTest(name, at=at):
                    with self.assertRaises(WishError) as caught:
                        raise getattr(errors, name)(at)
                    self.assertEqual(caught.exception.at, at)
                    self.assertIs(type(caught.exception.at), int)
                    self.assertIsInstance(str(caught.exception), str)

    def test_each_number_is_its_own_ones(self):
        one, other = errors.BadRule(3), errors.BadRule(4)
        self.assertEqual((one.at, other.at), (3, 4))

    def test_those_of_a_number_define_it_themselves(self):
        for name in OF_NUMBER:
            with self.subTest(name):
                self.assertIn("__init__", vars(getattr(errors, name)))


if __name__ == "__main__":
    unittest.main()
