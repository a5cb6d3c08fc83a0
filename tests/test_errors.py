"""0.3: the refusals."""

import unittest

from dipkin import errors

NAMES = ("Unlike", "Empty", "TooMany", "NoTree", "NoTelling", "NoPlace", "NoNumber", "NoPast", "NoText", "NoLine")


class Errors(unittest.TestCase):
    def test_dip_error_stands_straight_beneath_value_error(self):
        self.assertEqual(errors.DipError.__bases__, (ValueError,))

    def test_each_refusal_stands_straight_beneath_dip_error(self):
        for name in NAMES:
            self.assertEqual(getattr(errors, name).__bases__, (errors.DipError,), name)
            self.assertEqual(getattr(errors, name).__name__, name)

    def test_each_is_made_of_a_text(self):
        for name in NAMES + ("DipError",):
            self.assertEqual(str(getattr(errors, name)("some words")), "some words", name)

    def test_there_are_no_more(self):
        found = {name for name, value in vars(errors).items() if isinstance(value, type)}
        self.assertEqual(found, set(NAMES) | {"DipError"})


if __name__ == "__main__":
    unittest.main()
