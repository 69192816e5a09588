"""Sums: whether some vectors reach a target; by which whole numbers, or by which weights not.

The vectors are brought into a ladder, a list of rungs (pivot, row). Its rows reach just what the vectors reach, and a
row has nothing at the pivots of the rungs ahead of it; so a target is followed from rung to rung without any choice.
A row is a vector that has, beside its keys, whole numbers as keys: how often the vector of that number is in it.
"""

from linesaid.shares import ZERO, over, plus, share, times


def reach(vectors, target):
    return reach_by(ladder_of(vectors), len(vectors), target)


def reach_by(ladder, many, target):
    """As reach tells it, by the ladder of so many vectors."""
    left = dict(target)
    place = follow(ladder, left)
    if place < len(ladder):
        pivot = ladder[place][0]
        return ("weights", weights_by(ladder[:place], pivot, share(1, ladder[place][1][pivot])))
    beyond = keys_of(left)
    if beyond:
        # By this weight what is left comes to a half.
        return ("weights", weights_by(ladder, beyond[0], share(1, 2 * left[beyond[0]])))
    return ("sum", [-left.get(number, 0) for number in range(many)])


def is_reached(ladder, target):
    left = dict(target)
    return follow(ladder, left) == len(ladder) and not keys_of(left)


def follow(ladder, left):
    """Lessens what is left from rung to rung; tells the place of the first rung that doesn't fit, or the end."""
    for place, rung in enumerate(ladder):
        pivot = rung[0]
        if left.get(pivot, 0) % rung[1][pivot] != 0:
            return place
        lessen(left, rung)
    return len(ladder)


def weights_by(ladder, key, weight):
    """This weight, and weights at the pivots, by which the row of each rung comes to a whole number."""
    weights = {key: below_one(weight)}
    # From the end: a row has numbers at its own pivot and at those behind it alone.
    for rung in reversed(ladder):
        pivot = rung[0]
        held = weighed(rung[1], weights)
        if held[1] != 1:
            weights[pivot] = below_one(over(held, (-rung[1][pivot], 1)))
    return weights


def weighed(row, weights):
    total = ZERO
    for key, weight in weights.items():
        total = plus(total, times((row.get(key, 0), 1), weight))
    return total


def below_one(weight):
    # A whole number more or less in a weight makes a whole number more or less in each sum.
    return (weight[0] % weight[1], weight[1])


def ladder_of(vectors):
    ladder = []
    for number, one in enumerate(vectors):
        row = dict(one)
        row[number] = 1
        put_in(ladder, row)
    # Even numbers at () don't matter: they are reached by this one.
    put_in(ladder, {(): 2})
    return ladder


def put_in(ladder, row):
    changed = len(ladder)
    for place in range(len(ladder)):
        pivot = ladder[place][0]
        own = ladder[place][1]
        if row.get(pivot, 0) % own[pivot] == 0:
            lessen(row, ladder[place])
        else:
            ways = ways_to_divide(own[pivot], row[pivot])
            ladder[place] = (pivot, mixed(own, row, ways[0]))
            row = mixed(own, row, ways[1])
            changed = min(changed, place)
    if keys_of(row):
        ladder.append((pivot_of(row), row))
    settle(ladder, changed)


def settle(ladder, changed):
    """Lessens each row at the pivots behind it, from the first changed rung on: else the numbers grow and grow."""
    for place in range(len(ladder) - 2, -1, -1):
        for behind in range(max(place + 1, changed), len(ladder)):
            lessen(ladder[place][1], ladder[behind])


def lessen(row, rung):
    """Takes the rung's row away from the row as often as the pivot's number allows."""
    pivot = rung[0]
    often = row.get(pivot, 0) // rung[1][pivot]
    if often != 0:
        add_to(row, rung[1], -often)


def add_to(row, other, often):
    for key, number in other.items():
        total = row.get(key, 0) + often * number
        if total != 0:
            row[key] = total
        elif key in row:
            row.pop(key)


def mixed(one, other, way):
    found = {}
    add_to(found, one, way[0])
    add_to(found, other, way[1])
    return found


def ways_to_divide(one, other):
    """Two pairs of whole numbers: so often one and other come to their greatest common divisor, and so often to 0.

    As what the pairs make of one and other leads back to these, nothing is lost by taking it in their place.
    """
    ahead = (one, 1, 0)
    behind = (other, 0, 1)
    while behind[0] != 0:
        often = ahead[0] // behind[0]
        rest = tuple([first - often * second for first, second in zip(ahead, behind)])
        ahead = behind
        behind = rest
    return (ahead[1:], behind[1:])


def keys_of(row):
    return [key for key in row if isinstance(key, tuple)]


def pivot_of(row):
    # A small number seldom has to be divided further. () comes last: its even numbers are free, so a pivot there
    # would only double the row.
    return min(keys_of(row), key=lambda one: (one == (), abs(row[one]), one))
