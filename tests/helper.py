"""What several tests use: plain fractions to compare with, and numbers and points that are the same in every run."""

from fractions import Fraction
from math import gcd


def fraction(one):
    return Fraction(one[0], one[1])


def as_share(number):
    exact = Fraction(number)
    return (exact.numerator, exact.denominator)


def point(x, y):
    return (as_share(x), as_share(y))


def is_whole(thing):
    return type(thing) is int


def is_share(thing):
    return (
        type(thing) is tuple
        and len(thing) == 2
        and is_whole(thing[0])
        and is_whole(thing[1])
        and thing[1] >= 1
        and gcd(thing[0], thing[1]) == 1
    )


def is_point(thing):
    return type(thing) is tuple and len(thing) == 2 and is_share(thing[0]) and is_share(thing[1])


class Numbers:
    """Whole numbers that look mixed but come the same in every run."""

    def __init__(self, start):
        self.state = start

    def below(self, bound):
        found = 0
        size = 1
        while size < bound * 1000:
            self.state = (self.state * 6364136223846793005 + 1442695040888963407) % 2 ** 64
            found = found * 2 ** 32 + self.state // 2 ** 32
            size = size * 2 ** 32
        return found % bound

    def signed(self, most):
        return self.below(2 * most + 1) - most

    def share(self, most):
        return as_share(Fraction(self.signed(most), 1 + self.below(most)))

    def point(self, most):
        return (self.share(most), self.share(most))
