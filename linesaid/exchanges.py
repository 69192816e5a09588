"""Exchanges: tuples (a, b, c, d, e) of five unlike names. Where a, b, c lie on one line, span(a, b, d) span(a, c, e)
is span(a, b, e) span(a, c, d)."""

from linesaid.triples import triple, turn


def rests_on(exchange):
    return triple(exchange[0], exchange[1], exchange[2])


def needs(exchange):
    return [triple(three[0], three[1], three[2]) for three in spans_of(exchange)]


def vector(exchange):
    four = needs(exchange)
    found = {four[0]: 1, four[1]: 1, four[2]: -1, four[3]: -1}
    # A span of names out of order may be that of their triple with the other sign; () counts these signs.
    turns = [turn(three[0], three[1], three[2]) for three in spans_of(exchange)]
    if turns.count(-1) % 2 == 1:
        found[()] = 1
    return found


def plain(exchange):
    near = exchange[1:3]
    far = exchange[3:5]
    changes = [near[0] > near[1], far[0] > far[1]].count(True)
    found = exchange[:1] + tuple(sorted(near)) + tuple(sorted(far))
    return (-1 if changes == 1 else 1, found)


def exchanges(book):
    return exchanges_on(book, book.lines())


def targets(book, claim):
    aparts = aparts_of(book)
    resting = resting_on(claim, book.names())
    return [one for one in resting if all_among(needs(one) + [far_triple(one)], aparts)]


def exchanges_on(book, triples):
    """All plain exchanges that rest on one of these triples, and whose needs are apart in the book; in order."""
    names = book.names()
    aparts = aparts_of(book)
    found = []
    for one in triples:
        found.extend([each for each in resting_on(one, names) if all_among(needs(each), aparts)])
    return sorted(found)


def spans_of(exchange):
    """The names of the four spans, as the exchange has them, in the order of its needs."""
    a = exchange[0]
    b = exchange[1]
    c = exchange[2]
    d = exchange[3]
    e = exchange[4]
    return [(a, b, d), (a, c, e), (a, b, e), (a, c, d)]


def far_triple(exchange):
    return triple(exchange[0], exchange[3], exchange[4])


def resting_on(three, names):
    """All plain exchanges of these names, which are in order, that rest on the triple; in order."""
    others = [name for name in names if name not in three]
    found = []
    for a in three:
        near = tuple([name for name in three if name != a])
        for place, d in enumerate(others):
            found.extend([(a,) + near + (d, e) for e in others[place + 1:]])
    return found


def aparts_of(book):
    return dict([(row, True) for row in book.aparts()])


def all_among(triples, wanted):
    return all([one in wanted for one in triples])
