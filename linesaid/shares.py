"""Shares: exact fractions, tuples (top, bottom) in lowest terms, the bottom from 1 on."""

from linesaid.errors import NoShare

ZERO = (0, 1)


def share(top, bottom):
    if not is_whole(top) or not is_whole(bottom):
        raise NoShare("a share is made of two whole numbers")
    if bottom == 0:
        raise NoShare("a share has no 0 as its bottom")
    divisor = common_divisor(top, bottom)
    # A share has one form only, so that equal shares are equal tuples: the sign stands on the top.
    if bottom < 0:
        divisor = -divisor
    return (top // divisor, bottom // divisor)


def plus(one, other):
    return share(one[0] * other[1] + other[0] * one[1], one[1] * other[1])


def minus(one, other):
    return share(one[0] * other[1] - other[0] * one[1], one[1] * other[1])


def times(one, other):
    return share(one[0] * other[0], one[1] * other[1])


def over(one, other):
    return share(one[0] * other[1], one[1] * other[0])


def is_whole(thing):
    # Python counts True and False among the ints; the document does not.
    return isinstance(thing, int) and not isinstance(thing, bool)


def common_divisor(one, other):
    larger = abs(one)
    smaller = abs(other)
    while smaller != 0:
        rest = larger % smaller
        larger = smaller
        smaller = rest
    return larger
