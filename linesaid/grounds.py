"""Grounds: lists of steps (claim, target, parts), the parts a list of tuples (times, exchange).

A step stands where its parts' vectors, each its times, come to its target's vector; so the claim's three lie on one
line in every drawing that keeps the rows on which the parts and the target rest.
"""

from linesaid.exchanges import all_among, aparts_of, far_triple, needs, plain, rests_on, vector
from linesaid.triples import triple


def stands(book, ground):
    aparts = aparts_of(book)
    lines = dict([(row, True) for row in book.lines()])
    for step in ground:
        if not is_held(step, lines, aparts):
            return False
        lines[step[0]] = True
    return True


def is_held(step, lines, aparts):
    target = step[1]
    if not all_among(needs(target) + [far_triple(target)], aparts):
        return False
    for part in step[2]:
        if rests_on(part[1]) not in lines or not all_among(needs(part[1]), aparts):
            return False
    return comes_to(step[2], vector(target))


def comes_to(parts, wanted):
    left = dict(wanted)
    for often, exchange in parts:
        for key, number in vector(exchange).items():
            left[key] = left.get(key, 0) - often * number
    # Only whether it is even counts at (): a sign that is changed twice is as it was.
    left[()] = left.get((), 0) % 2
    return not any(left.values())


def shortened(ground):
    kept = []
    rested = {}
    for place in range(len(ground) - 1, -1, -1):
        step = ground[place]
        if not kept or step[0] in rested:
            kept.append(copied(step))
            for part in step[2]:
                rested[rests_on(part[1])] = True
    kept.reverse()
    return kept


def joined(one, other):
    found = [copied(step) for step in one]
    claims = dict([(step[0], True) for step in one])
    for step in other:
        if step[0] not in claims:
            found.append(copied(step))
            claims[step[0]] = True
    return found


def copied(step):
    # The parts are a list: what is told is not to share it with what was handed in.
    return (step[0], step[1], list(step[2]))


def renamed(ground, by):
    return [renamed_step(step, by) for step in ground]


def renamed_step(step, by):
    claim = put_in_place(step[0], by)
    target = plain(put_in_place(step[1], by))
    parts = []
    for often, exchange in step[2]:
        found = plain(put_in_place(exchange, by))
        # Signs changed in the target are to be changed in each part, so that these come to it again.
        parts.append((target[0] * found[0] * often, found[1]))
    return (triple(claim[0], claim[1], claim[2]), target[1], sorted(parts, key=lambda part: part[1]))


def put_in_place(names, by):
    return tuple([by[name] for name in names])
