import unittest

from linesaid import errors

REFUSALS = ("NoShare", "NoName", "NoRow", "NoStep", "NoText", "TooMany")


class ErrorsTest(unittest.TestCase):
    def test_the_base_stands_straight_under_value_error(self):
        self.assertEqual(errors.SaidError.__bases__, (ValueError,))

    def test_each_refusal_stands_straight_under_the_base(self):
        for name in REFUSALS:
            with self.subTest(name=name):
                self.assertEqual(getattr(errors, name).__bases__, (errors.SaidError,))

    def test_no_refusal_stands_under_another_one(self):
        for name in REFUSALS:
            for other in REFUSALS:
                with self.subTest(name=name, other=other):
                    under = issubclass(getattr(errors, name), getattr(errors, other))
                    self.assertEqual(under, name == other)

    def test_each_class_bears_its_own_name(self):
        for name in REFUSALS + ("SaidError",):
            self.assertEqual(getattr(errors, name).__name__, name)

    def test_each_can_be_raised_and_taken_as_the_base(self):
        for name in REFUSALS:
            with self.subTest(name=name):
                with self.assertRaises(errors.SaidError):
                    raise getattr(errors, name)("words")


if __name__ == "__main__":
    unittest.main()
