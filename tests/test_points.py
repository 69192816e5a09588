import copy
import itertools
import unittest
from fractions import Fraction

from helper import Numbers, as_share, fraction, is_point, is_share, point
from linesaid.points import between, crossing, span
from linesaid.shares import minus, plus, times

SIXTY = 10 ** 60 - 1
NOUGHT = (0, 1)

# The sign of each of the six orders of three, as itertools.permutations tells them.
SIGNS = [1, -1, -1, 1, 1, -1]


def plain(one):
    return (fraction(one[0]), fraction(one[1]))


def plain_span(one, other, third):
    px, py = plain(one)
    qx, qy = plain(other)
    rx, ry = plain(third)
    return (qx - px) * (ry - py) - (qy - py) * (rx - px)


def plain_between(one, other, t):
    px, py = plain(one)
    qx, qy = plain(other)
    return point(px + fraction(t) * (qx - px), py + fraction(t) * (qy - py))


def plain_line(one, other):
    """The numbers a, b, c of the line a x + b y = c through two points; a and b are both 0 where they are alike."""
    px, py = plain(one)
    qx, qy = plain(other)
    return (qy - py, px - qx, (qy - py) * px + (px - qx) * py)


def plain_crossing(one, other, third, fourth):
    a, b, c = plain_line(one, other)
    d, e, f = plain_line(third, fourth)
    both = a * e - b * d
    if both == 0:
        return None
    return point((c * e - b * f) / both, (a * f - c * d) / both)


def grid(size):
    return [point(x, y) for x in range(size) for y in range(size)]


def mixed_points(start, many, most):
    numbers = Numbers(start)
    return [numbers.point(most) for number in range(many)]


class SpanTest(unittest.TestCase):
    def test_written_out(self):
        self.assertEqual(span(point(0, 0), point(1, 0), point(0, 1)), (1, 1))
        self.assertEqual(span(point(0, 0), point(0, 1), point(1, 0)), (-1, 1))
        self.assertEqual(span(point(1, 2), point(4, 3), point(2, 7)), (14, 1))
        half = Fraction(1, 2)
        self.assertEqual(span(point(half, 0), point(1, Fraction(1, 3)), point(0, 1)), (2, 3))

    def test_it_is_as_told(self):
        points = grid(3) + mixed_points(1, 8, 9)
        for one, other, third in itertools.product(points, repeat=3):
            told = span(one, other, third)
            self.assertTrue(is_share(told))
            self.assertEqual(told, as_share(plain_span(one, other, third)))

    def test_large_points(self):
        points = mixed_points(2, 6, SIXTY)
        for one, other, third in itertools.permutations(points, 3):
            told = span(one, other, third)
            self.assertTrue(is_share(told))
            self.assertEqual(told, as_share(plain_span(one, other, third)))

    def test_nought_on_one_line(self):
        numbers = Numbers(3)
        for number in range(40):
            one, other = numbers.point(20), numbers.point(20)
            third = plain_between(one, other, numbers.share(20))
            for three in itertools.permutations((one, other, third)):
                self.assertEqual(span(*three), NOUGHT)

    def test_nought_on_upright_and_level_lines(self):
        for three in itertools.permutations((0, 3, -5)):
            self.assertEqual(span(*[point(2, y) for y in three]), NOUGHT)
            self.assertEqual(span(*[point(x, 2) for x in three]), NOUGHT)

    def test_nought_where_two_or_all_are_alike(self):
        for one, other in itertools.product(mixed_points(4, 8, 12), repeat=2):
            self.assertEqual(span(one, one, other), NOUGHT)
            self.assertEqual(span(one, other, one), NOUGHT)
            self.assertEqual(span(other, one, one), NOUGHT)

    def test_not_nought_off_the_line(self):
        numbers = Numbers(5)
        for number in range(40):
            one = numbers.point(20)
            other = (plus(one[0], (1, 7)), numbers.share(20))
            on_line = plain_between(one, other, numbers.share(20))
            off_line = (on_line[0], plus(on_line[1], (1, SIXTY)))
            self.assertNotEqual(span(one, other, off_line), NOUGHT)

    def test_the_other_sign_where_two_change_places(self):
        points = mixed_points(6, 7, 15)
        for three in itertools.combinations(points, 3):
            first = fraction(span(*three))
            self.assertNotEqual(first, 0)
            told = [fraction(span(*changed)) for changed in itertools.permutations(three)]
            self.assertEqual(told, [sign * first for sign in SIGNS])

    def test_five_points_come_to_nought(self):
        few = mixed_points(7, 3, 9) + [point(0, 0), point(1, 1), point(2, 2), point(0, 1)]
        for five in itertools.product(few[:5], repeat=5):
            self.assertEqual(five_points(*five), NOUGHT)
        for five in itertools.permutations(few, 5):
            self.assertEqual(five_points(*five), NOUGHT)
        self.assertEqual(five_points(*mixed_points(8, 5, SIXTY)), NOUGHT)


def five_points(a, b, c, d, e):
    first = times(span(a, b, c), span(a, d, e))
    second = times(span(a, b, d), span(a, c, e))
    third = times(span(a, b, e), span(a, c, d))
    return plus(minus(first, second), third)


class BetweenTest(unittest.TestCase):
    def test_written_out(self):
        one, other = point(1, 2), point(5, -4)
        self.assertEqual(between(one, other, (1, 2)), point(3, -1))
        self.assertEqual(between(one, other, (1, 4)), point(2, Fraction(1, 2)))
        self.assertEqual(between(one, other, (-1, 1)), point(-3, 8))
        self.assertEqual(between(one, other, (2, 1)), point(9, -10))
        self.assertEqual(between(one, other, (-1, 3)), point(Fraction(-1, 3), 4))
        self.assertEqual(between(one, other, (5, 3)), point(Fraction(23, 3), -8))

    def test_the_ends(self):
        for one, other in itertools.product(mixed_points(9, 8, 30), repeat=2):
            self.assertEqual(between(one, other, (0, 1)), one)
            self.assertEqual(between(one, other, (1, 1)), other)

    def test_points_alike(self):
        for one in mixed_points(10, 8, 30):
            for t in ((0, 1), (1, 1), (1, 3), (-7, 2), (SIXTY, 1)):
                self.assertEqual(between(one, one, t), one)

    def test_shares_of_any_size(self):
        points = mixed_points(11, 6, 30) + mixed_points(12, 2, SIXTY)
        sizes = [(-SIXTY, 1), (-7, 2), (-1, SIXTY), (1, SIXTY), (1, 3), (2, 3), (4, 3), (7, 1), (SIXTY, 2)]
        for one, other in itertools.product(points, repeat=2):
            for t in sizes:
                told = between(one, other, t)
                self.assertTrue(is_point(told))
                self.assertEqual(told, plain_between(one, other, t))
                self.assertEqual(span(one, other, told), NOUGHT)


class CrossingTest(unittest.TestCase):
    def test_written_out(self):
        self.assert_meet(point(0, 0), point(2, 2), point(0, 2), point(2, 0), point(1, 1))
        self.assert_meet(point(0, 0), point(1, 1), point(0, 5), point(1, 5), point(5, 5))
        self.assert_meet(point(0, 0), point(3, 1), point(1, 0), point(1, 9), point(1, Fraction(1, 3)))
        self.assert_meet(point(-1, -1), point(1, 0), point(0, 0), point(1, 3), point(Fraction(-1, 5), Fraction(-3, 5)))

    def test_upright_and_level(self):
        self.assert_meet(point(3, 0), point(3, 1), point(0, 7), point(1, 7), point(3, 7))
        self.assert_meet(point(0, 0), point(0, 5), point(-2, 0), point(9, 0), point(0, 0))
        half = Fraction(1, 2)
        self.assert_meet(point(half, 0), point(half, 1), point(0, 0), point(1, 1), point(half, half))
        self.assert_meet(point(0, half), point(1, half), point(0, 0), point(1, -1), point(-half, half))

    def test_a_shared_point_is_the_meet(self):
        for one, other, third in itertools.permutations(mixed_points(13, 6, 20), 3):
            self.assert_meet(one, other, one, third, one)

    def test_a_point_of_one_pair_on_the_other_line(self):
        self.assert_meet(point(0, 0), point(4, 4), point(1, 1), point(1, 5), point(1, 1))
        self.assert_meet(point(0, 0), point(4, 4), point(6, 6), point(1, 5), point(6, 6))

    def test_all_of_a_small_grid(self):
        points = grid(3)
        for four in itertools.product(points, repeat=4):
            self.assertEqual(crossing(*four), plain_crossing(*four), four)

    def test_mixed_points(self):
        for four in itertools.permutations(mixed_points(14, 7, 25), 4):
            self.check_meet(four)
        self.check_meet(mixed_points(15, 4, SIXTY))

    def test_none_where_a_pair_is_alike(self):
        one, other, third = point(1, 2), point(3, 5), point(-2, Fraction(1, 3))
        self.assert_none(one, one, other, third)
        self.assert_none(one, one, one, third)
        self.assert_none(one, one, other, other)
        self.assert_none(one, one, one, one)
        self.assert_none(between(other, third, (1, 2)), between(other, third, (1, 2)), other, third)

    def test_none_where_the_lines_are_side_by_side(self):
        self.assert_none(point(0, 0), point(1, 2), point(1, 0), point(2, 2))
        self.assert_none(point(0, 0), point(1, 2), point(1, 0), point(-4, -10))
        self.assert_none(point(0, 0), point(0, 3), point(1, 5), point(1, -2))
        self.assert_none(point(0, 0), point(3, 0), point(5, 1), point(-2, 1))
        small = Fraction(1, SIXTY)
        self.assert_none(point(0, 0), point(1, 1), point(0, small), point(1, 1 + small))

    def test_not_none_where_they_are_nearly_side_by_side(self):
        small = Fraction(1, 10 ** 29)
        self.assert_meet(point(0, 0), point(1, 0), point(0, 1), point(1, 1 + small), point(-10 ** 29, 0))

    def test_none_where_both_are_the_same_line(self):
        self.assert_none(point(0, 0), point(1, 2), point(2, 4), point(-3, -6))
        self.assert_none(point(0, 0), point(1, 2), point(0, 0), point(1, 2))
        self.assert_none(point(0, 0), point(1, 2), point(0, 0), point(5, 10))
        self.assert_none(point(3, 0), point(3, 1), point(3, 7), point(3, -2))
        self.assert_none(point(0, 3), point(1, 3), point(7, 3), point(-2, 3))

    def changed_about(self, one, other, third, fourth):
        for first in ((one, other), (other, one)):
            for second in ((third, fourth), (fourth, third)):
                yield first + second
                yield second + first

    def assert_meet(self, one, other, third, fourth, meet):
        for four in self.changed_about(one, other, third, fourth):
            self.assertEqual(crossing(*four), meet, four)

    def assert_none(self, one, other, third, fourth):
        for four in self.changed_about(one, other, third, fourth):
            self.assertIsNone(crossing(*four), four)

    def check_meet(self, four):
        told = crossing(*four)
        self.assertTrue(is_point(told))
        self.assertEqual(told, plain_crossing(*four))
        self.assertEqual(span(four[0], four[1], told), NOUGHT)
        self.assertEqual(span(four[2], four[3], told), NOUGHT)


class HandedInTest(unittest.TestCase):
    def test_points_are_as_they_were(self):
        for four in itertools.permutations(mixed_points(16, 5, 12), 4):
            before = copy.deepcopy(four)
            first = (span(*four[:3]), between(four[0], four[1], (2, 3)), crossing(*four))
            again = (span(*four[:3]), between(four[0], four[1], (2, 3)), crossing(*four))
            self.assertEqual(four, before)
            self.assertEqual(first, again)


if __name__ == "__main__":
    unittest.main()
