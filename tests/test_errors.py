"""[3]: the refusals."""

import unittest

from darkpace import errors

KINDS = (
    "NoLength", "NoWord", "Clash", "NoLook", "NoRound", "NoUses",
    "NoSide", "NoRing", "NoSteps", "NoBottom", "NoText",
)


class Errors(unittest.TestCase):
    def test_any_refusal_is_a_dial_error_and_that_a_value_error(self):
        self.assertEqual(errors.DialError.__bases__, (ValueError,))

    def test_each_kind_stands_straight_under_dial_error(self):
        for name in KINDS:
            self.assertEqual(getattr(errors, name).__bases__, (errors.DialError,), name)

    def test_no_kind_stands_under_another_one(self):
        for name in KINDS:
            for other in KINDS:
                if name != other:
                    self.assertFalse(issubclass(getattr(errors, name), getattr(errors, other)))

    def test_the_value_is_kept_told_by_place(self):
        for name in KINDS:
            for value in (0, -10 ** 60, None, "", "beside", (("at", 0, 1), ("upto", 0, 0))):
                self.assertEqual(getattr(errors, name)(value).what, value)

    def test_the_value_is_kept_told_as_what(self):
        for name in KINDS:
            for value in (0, None, "beside"):
                self.assertEqual(getattr(errors, name)(what=value).what, value)

    def test_the_very_value_is_kept(self):
        value = ["a list"]
        for name in KINDS:
            self.assertIs(getattr(errors, name)(value).what, value)

    def test_each_is_made_with_one_value(self):
        for name in KINDS:
            with self.assertRaises(TypeError):
                getattr(errors, name)()
            with self.assertRaises(TypeError):
                getattr(errors, name)(1, 2)

    def test_each_says_something(self):
        for name in KINDS:
            self.assertNotEqual(str(getattr(errors, name)(0)), "")


if __name__ == "__main__":
    unittest.main()
