"""Finding: the ground of a triple in a book, in one step or in rounds, or weights by which no target is reached."""

from linesaid.book import claim_in
from linesaid.exchanges import exchanges_on, targets, vector
from linesaid.grounds import shortened
from linesaid.sums import is_reached, ladder_of, reach_by
from linesaid.triples import all_triples


def in_one_step(book, A, B, C):
    return in_rounds(book, A, B, C, 0)


def in_rounds(book, A, B, C, rounds):
    claim = claim_in(book, A, B, C)
    if claim in book.lines():
        return ("ground", [])
    steps = []
    for number in range(rounds):
        fresh = one_round(book, steps)
        steps.extend(fresh)
        if claim in claims_of(fresh):
            return ("ground", shortened(steps[:claims_of(steps).index(claim) + 1]))
        if not fresh:
            # Every further round would try the same from the same.
            break
    return tried(book, claim, steps)


def one_round(book, steps):
    """A step for each triple that is reached from the lines and the claims of the steps so far, in order."""
    source = source_of(book, steps)
    found = [first_step(book, claim, source) for claim in left_to_try(book, steps)]
    return [step for step in found if step is not None]


def left_to_try(book, steps):
    settled = dict([(one, True) for one in book.lines() + book.aparts() + claims_of(steps)])
    return [one for one in all_triples(book.names()) if one not in settled]


def tried(book, claim, steps):
    source = source_of(book, steps)
    own = first_step(book, claim, source)
    if own is None:
        return ("open", [(target, reached_by(source, target)[1]) for target in targets(book, claim)])
    return ("ground", shortened(steps + [own]))


def source_of(book, steps):
    """The exchanges that rest on the lines and on the claims of the steps, and the ladder of their vectors."""
    found = exchanges_on(book, book.lines() + claims_of(steps))
    return (found, ladder_of([vector(one) for one in found]))


def first_step(book, claim, source):
    for target in targets(book, claim):
        if is_reached(source[1], vector(target)):
            numbers = reached_by(source, target)[1]
            parts = [(often, one) for often, one in zip(numbers, source[0]) if often != 0]
            return (claim, target, parts)
    return None


def reached_by(source, target):
    return reach_by(source[1], len(source[0]), vector(target))


def claims_of(steps):
    return [step[0] for step in steps]
