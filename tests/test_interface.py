import inspect
import unittest

from linesaid import points, shares

ARGUMENTS = (
    (shares.share, ["top", "bottom"]),
    (shares.plus, ["one", "other"]),
    (shares.minus, ["one", "other"]),
    (shares.times, ["one", "other"]),
    (shares.over, ["one", "other"]),
    (points.span, ["one", "other", "third"]),
    (points.between, ["one", "other", "t"]),
    (points.crossing, ["one", "other", "third", "fourth"]),
)


class InterfaceTest(unittest.TestCase):
    def test_arguments_are_called_as_the_document_says(self):
        for function, expected in ARGUMENTS:
            with self.subTest(function=function.__name__):
                self.assertEqual(list(inspect.signature(function).parameters), expected)


if __name__ == "__main__":
    unittest.main()
