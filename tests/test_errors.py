"""The refusals and how they stand under one another."""

import unittest

from stonelay import errors

NAMES = (
    "NoBoard", "NoCount", "TooGreat", "NoLaying", "NoCell",
    "NoText", "NoRow", "NoNumber", "NoTable",
)


class ErrorsTest(unittest.TestCase):
    def test_stone_error_stands_under_value_error(self):
        self.assertTrue(issubclass(errors.StoneError, ValueError))

    def test_each_refusal_stands_under_stone_error(self):
        for name in NAMES:
            with self.subTest(name=name):
                kind = getattr(errors, name)
                self.assertTrue(issubclass(kind, errors.StoneError))
                self.assertIsNot(kind, errors.StoneError)

    def test_no_refusal_stands_under_another_one(self):
        for name in NAMES:
            for other in NAMES:
                if name != other:
                    with self.subTest(name=name, other=other):
                        self.assertFalse(issubclass(getattr(errors, name), getattr(errors, other)))

    def test_each_refusal_can_be_raised_and_taken(self):
        for name in NAMES:
            with self.subTest(name=name):
                kind = getattr(errors, name)
                with self.assertRaises(errors.StoneError):
                    raise kind("words")


if __name__ == "__main__":
    unittest.main()
