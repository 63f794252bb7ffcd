"""Point [3]: what the refusals are."""

import copy
import unittest

from twonames import errors
from twonames.errors import TellError, TooMany

PLAIN = ("NoPair", "NoEvents", "NoRow", "NoLetter", "NoRings", "NotOne", "NoNumber", "NoPlaces", "NoHearers", "NoText")


class Refusals(unittest.TestCase):
    def test_any_refusal_is_a_value_error(self):
        self.assertEqual(TellError.__bases__, (ValueError,))

    def test_each_class_stands_straight_under_tell_error(self):
        for name in PLAIN + ("TooMany",):
            self.assertEqual(getattr(errors, name).__bases__, (TellError,), name)

    def test_each_class_is_defined_here_and_there_are_no_others(self):
        here = {name for name, thing in vars(errors).items() if isinstance(thing, type)}
        self.assertEqual(here, set(PLAIN) | {"TellError", "TooMany"})
        for name in here:
            self.assertEqual(getattr(errors, name).__module__, "twonames.errors")

    def test_plain_ones_are_made_with_nothing(self):
        for name in PLAIN:
            with self.assertRaises(TellError) as caught:
                raise getattr(errors, name)()
            self.assertIs(type(caught.exception), getattr(errors, name))

    def test_too_many_is_made_with_many(self):
        self.assertEqual(TooMany(7).many, 7)
        self.assertEqual(TooMany(1000).many, 1000)
        self.assertEqual(copy.copy(TooMany(7)).many, 7)

    def test_too_many_is_made_with_just_one(self):
        with self.assertRaises(TypeError):
            TooMany()
        with self.assertRaises(TypeError):
            TooMany(1, 2)


if __name__ == "__main__":
    unittest.main()
