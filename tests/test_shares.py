import copy
import unittest
from fractions import Fraction
from math import gcd

from helper import Numbers, as_share, fraction, is_share
from linesaid.errors import NoShare, SaidError
from linesaid.shares import minus, over, plus, share, times

SIXTY = 10 ** 60 - 1

NO_WHOLE_NUMBERS = (
    True, False, None, "", "1", "1/2", [], [1], (), (1, 2), [[1], (None, "a")], ((((((((1,),),),),),),),),
)


def small_shares():
    found = {}
    for top in range(-6, 7):
        for bottom in range(1, 7):
            found[as_share(Fraction(top, bottom))] = True
    return sorted(found)


class MakingTest(unittest.TestCase):
    def test_written_out(self):
        told = (
            (1, 2, (1, 2)), (2, 4, (1, 2)), (-2, 4, (-1, 2)), (2, -4, (-1, 2)), (-2, -4, (1, 2)),
            (6, 3, (2, 1)), (6, -3, (-2, 1)), (5, 1, (5, 1)), (5, -1, (-5, 1)), (12, 18, (2, 3)),
            (7, 7, (1, 1)), (7, -7, (-1, 1)), (1, 1, (1, 1)), (3, 5, (3, 5)), (9, 6, (3, 2)),
        )
        for top, bottom, expected in told:
            with self.subTest(top=top, bottom=bottom):
                self.assertEqual(share(top, bottom), expected)

    def test_nought_is_nought_over_one(self):
        for bottom in (1, -1, 2, -2, 12, -12, SIXTY, -SIXTY):
            with self.subTest(bottom=bottom):
                self.assertEqual(share(0, bottom), (0, 1))

    def test_small_numbers_of_all_signs(self):
        for top in range(-30, 31):
            for bottom in range(-30, 31):
                if bottom != 0:
                    self.check(top, bottom)

    def test_large_numbers_of_all_signs(self):
        numbers = Numbers(4)
        for figures in (5, 18, 19, 20, 40, 60):
            for number in range(30):
                top = 1 + numbers.below(10 ** figures - 1)
                bottom = 1 + numbers.below(10 ** figures - 1)
                self.check_signs(top, bottom)

    def test_large_numbers_with_a_large_divisor(self):
        numbers = Numbers(5)
        for number in range(30):
            common = 1 + numbers.below(10 ** 40 - 1)
            top = common * (1 + numbers.below(10 ** 20 - 1))
            bottom = common * (1 + numbers.below(10 ** 20 - 1))
            self.check_signs(top, bottom)

    def test_the_largest_numbers(self):
        for top in (1, 2, 10 ** 59, SIXTY - 1, SIXTY):
            for bottom in (1, 2, 10 ** 59, SIXTY - 1, SIXTY):
                self.check_signs(top, bottom)

    def check_signs(self, top, bottom):
        for sign in (1, -1):
            for other in (1, -1):
                self.check(sign * top, other * bottom)

    def check(self, top, bottom):
        told = share(top, bottom)
        self.assertTrue(is_share(told), (top, bottom, told))
        self.assertEqual(gcd(told[0], told[1]), 1)
        self.assertEqual(told[0] * bottom, told[1] * top)


class RefusalTest(unittest.TestCase):
    def test_the_second_is_nought(self):
        for top in (0, 1, -1, 7, -12, SIXTY, -SIXTY):
            with self.subTest(top=top):
                with self.assertRaises(NoShare):
                    share(top, 0)

    def test_what_is_no_whole_number(self):
        for thing in NO_WHOLE_NUMBERS:
            for top, bottom in ((thing, 1), (1, thing), (thing, 0), (0, thing), (thing, thing)):
                with self.subTest(top=top, bottom=bottom):
                    with self.assertRaises(NoShare):
                        share(top, bottom)

    def test_over_nought(self):
        for one in small_shares() + [(SIXTY, 1), (-1, SIXTY)]:
            with self.subTest(one=one):
                with self.assertRaises(NoShare):
                    over(one, (0, 1))

    def test_the_refusal_is_a_said_error(self):
        with self.assertRaises(SaidError):
            share(1, 0)
        with self.assertRaises(ValueError):
            over((1, 2), (0, 1))


class ReckoningTest(unittest.TestCase):
    def test_written_out(self):
        self.assertEqual(plus((1, 2), (1, 3)), (5, 6))
        self.assertEqual(plus((1, 2), (1, 2)), (1, 1))
        self.assertEqual(plus((1, 2), (-1, 2)), (0, 1))
        self.assertEqual(minus((1, 2), (1, 3)), (1, 6))
        self.assertEqual(minus((1, 3), (1, 2)), (-1, 6))
        self.assertEqual(minus((5, 7), (5, 7)), (0, 1))
        self.assertEqual(times((2, 3), (3, 2)), (1, 1))
        self.assertEqual(times((-2, 3), (3, 4)), (-1, 2))
        self.assertEqual(times((0, 1), (3, 4)), (0, 1))
        self.assertEqual(over((1, 2), (3, 4)), (2, 3))
        self.assertEqual(over((1, 2), (-3, 4)), (-2, 3))
        self.assertEqual(over((-1, 2), (-3, 4)), (2, 3))
        self.assertEqual(over((0, 1), (-3, 4)), (0, 1))

    def test_small_shares(self):
        for one in small_shares():
            for other in small_shares():
                self.check(one, other)

    def test_large_shares(self):
        numbers = Numbers(6)
        for number in range(200):
            self.check(numbers.share(SIXTY), numbers.share(SIXTY))

    def test_what_was_told_may_be_handed_in_again(self):
        numbers = Numbers(7)
        one = numbers.share(SIXTY)
        for number in range(8):
            other = numbers.share(SIXTY)
            self.check(one, other)
            one = times(plus(one, other), over(one, other))

    def check(self, one, other):
        told = [
            (plus(one, other), fraction(one) + fraction(other)),
            (minus(one, other), fraction(one) - fraction(other)),
            (times(one, other), fraction(one) * fraction(other)),
        ]
        if other != (0, 1):
            told.append((over(one, other), fraction(one) / fraction(other)))
        for found, expected in told:
            self.assertTrue(is_share(found), (one, other, found))
            self.assertEqual(found, as_share(expected))


class HandedInTest(unittest.TestCase):
    def test_shares_are_as_they_were(self):
        for deed in (plus, minus, times, over):
            for one, other in (((1, 2), (-3, 4)), ((0, 1), (5, 1)), ((SIXTY, 7), (-1, SIXTY))):
                before = copy.deepcopy((one, other))
                deed(one, other)
                self.assertEqual((one, other), before)

    def test_what_is_refused_is_as_it_was(self):
        for thing in NO_WHOLE_NUMBERS:
            before = copy.deepcopy(thing)
            with self.assertRaises(NoShare):
                share(thing, thing)
            self.assertEqual(thing, before)

    def test_the_same_is_told_again(self):
        self.assertEqual([share(4, -6), share(4, -6)], [(-2, 3), (-2, 3)])
        self.assertEqual([over((1, 2), (3, 4)), over((1, 2), (3, 4))], [(2, 3), (2, 3)])


if __name__ == "__main__":
    unittest.main()
