"""Points: tuples (x, y) of two shares; spans of three, points between two, and where two lines meet."""

from linesaid.shares import ZERO, minus, over, plus, times


def span(one, other, third):
    rising = times(minus(other[0], one[0]), minus(third[1], one[1]))
    falling = times(minus(other[1], one[1]), minus(third[0], one[0]))
    return minus(rising, falling)


def between(one, other, t):
    return (part_way(one[0], other[0], t), part_way(one[1], other[1], t))


def part_way(start, end, t):
    return plus(start, times(t, minus(end, start)))


def crossing(one, other, third, fourth):
    # Along the first line the span with the second pair changes evenly: the lines meet where it comes to 0.
    # It does not change at all just where a pair's points are alike or the lines run side by side.
    at_one = span(third, fourth, one)
    change = minus(at_one, span(third, fourth, other))
    if change == ZERO:
        return None
    return between(one, other, over(at_one, change))
