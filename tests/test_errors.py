import unittest

from fewturned import errors
from fewturned.errors import NoArrows, NoNumber, NoRow, NoText, NoWeb, TooBig, TurnError

REFUSALS = [NoWeb, NoRow, NoNumber, NoArrows, TooBig, NoText]


class Errors(unittest.TestCase):
    def test_turn_error_is_a_value_error(self):
        self.assertTrue(issubclass(TurnError, ValueError))

    def test_each_is_a_turn_error_and_a_value_error(self):
        for refusal in REFUSALS:
            with self.assertRaises(TurnError):
                raise refusal("why")
            with self.assertRaises(ValueError):
                raise refusal("why")

    def test_none_is_another_one(self):
        for one in REFUSALS:
            for other in REFUSALS:
                self.assertEqual(issubclass(one, other), one is other, (one, other))
            self.assertFalse(issubclass(TurnError, one))

    def test_they_bear_their_names(self):
        for name in ("TurnError", "NoWeb", "NoRow", "NoNumber", "NoArrows", "TooBig", "NoText"):
            self.assertEqual(getattr(errors, name).__name__, name)


if __name__ == "__main__":
    unittest.main()
