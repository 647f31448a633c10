import unittest

from widenrows import errors
from widenrows.errors import RowError

WITH_AT = ("NoRows", "NoText", "NoLayout", "NoUnits", "NoFree", "NoWish")
WITHOUT_AT = ("Ended", "NoPaper", "TooMuch", "NoLine")


def refusals():
    return [getattr(errors, name) for name in WITH_AT + WITHOUT_AT]


class Errors(unittest.TestCase):
    def test_row_error_is_a_value_error(self):
        self.assertTrue(issubclass(RowError, ValueError))

    def test_each_refusal_stands_straight_under_row_error(self):
        for refusal in refusals():
            self.assertEqual(refusal.__bases__, (RowError,), refusal)
            self.assertTrue(issubclass(refusal, ValueError), refusal)

    def test_no_refusal_stands_under_another(self):
        for one in refusals():
            for other in refusals():
                self.assertEqual(issubclass(one, other), one is other, (one, other))

    def test_at_is_set_when_it_is_made(self):
        for name in WITH_AT:
            for at in (0, 1, 12, 4000):
                self.assertEqual(getattr(errors, name)(at).at, at, name)

    def test_the_others_are_made_of_nothing(self):
        for name in WITHOUT_AT:
            self.assertFalse(hasattr(getattr(errors, name)(), "at"), name)

    def test_each_is_taken_as_row_error_and_as_value_error(self):
        for name in WITH_AT:
            with self.assertRaises(RowError):
                raise getattr(errors, name)(3)
        for name in WITHOUT_AT:
            with self.assertRaises(ValueError):
                raise getattr(errors, name)()


if __name__ == "__main__":
    unittest.main()
