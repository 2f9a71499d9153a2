import unittest

from turnery import errors

NAMES = ["NoText", "NoWood", "NoTurning", "NoTree", "TooGreat", "OtherWood", "Strays", "NoRow", "NoName"]


class TestErrors(unittest.TestCase):
    def test_turn_error_stands_under_value_error(self):
        self.assertEqual(errors.TurnError.__bases__, (ValueError,))

    def test_each_stands_straight_under_turn_error(self):
        for name in NAMES:
            with self.subTest(name=name):
                refusal = getattr(errors, name)
                self.assertEqual(refusal.__bases__, (errors.TurnError,))
                self.assertEqual(refusal.__name__, name)

    def test_each_is_raised_and_taken_as_turn_error_and_value_error(self):
        for name in NAMES:
            with self.subTest(name=name):
                for taken in (errors.TurnError, ValueError):
                    with self.assertRaises(taken):
                        raise getattr(errors, name)("words")

    def test_no_one_is_another_one(self):
        for name in NAMES:
            for other in NAMES:
                with self.subTest(name=name, other=other):
                    is_under = issubclass(getattr(errors, name), getattr(errors, other))
                    self.assertEqual(is_under, name == other)


if __name__ == "__main__":
    unittest.main()
