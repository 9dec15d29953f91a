"""The interface's optionwood/errors.py: one class for each refusal."""

import unittest

from optionwood import errors

NAMES = ("NoWood", "NoCount", "NoWares", "NoOffer", "Unlike", "NoText", "NoRow", "NoName")


class ErrorsTest(unittest.TestCase):
    def test_any_refusal_is_a_value_error(self):
        self.assertTrue(issubclass(errors.WoodError, ValueError))
        self.assertEqual(errors.WoodError.__name__, "WoodError")

    def test_each_stands_straight_under_wood_error(self):
        for name in NAMES:
            with self.subTest(name):
                self.assertEqual(getattr(errors, name).__name__, name)
                self.assertEqual(getattr(errors, name).__bases__, (errors.WoodError,))

    def test_none_stands_under_another(self):
        for one in NAMES:
            for other in NAMES:
                with self.subTest(one=one, other=other):
                    under = issubclass(getattr(errors, one), getattr(errors, other))
                    self.assertEqual(under, one == other)

    def test_each_is_raised_and_caught(self):
        for name in NAMES:
            kind = getattr(errors, name)
            for caught_as in (kind, errors.WoodError, ValueError):
                with self.subTest(name=name, caught_as=caught_as.__name__):
                    with self.assertRaises(caught_as) as caught:
                        raise kind("why")
                    self.assertEqual(str(caught.exception), "why")


if __name__ == "__main__":
    unittest.main()
