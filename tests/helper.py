"""What several tests use: plain fractions to compare with, numbers and points that are the same in every run, things
that are no names, books, and what the document says of exchanges, weights, plans and tries, told a second time without
the program."""

import functools
import itertools
from fractions import Fraction
from math import gcd, lcm

from linesaid.book import Book


def fraction(one):
    return Fraction(one[0], one[1])


def as_share(number):
    exact = Fraction(number)
    return (exact.numerator, exact.denominator)


def point(x, y):
    return (as_share(x), as_share(y))


def is_whole(thing):
    return type(thing) is int


def is_share(thing):
    return (
        type(thing) is tuple
        and len(thing) == 2
        and is_whole(thing[0])
        and is_whole(thing[1])
        and thing[1] >= 1
        and gcd(thing[0], thing[1]) == 1
    )


def is_point(thing):
    return type(thing) is tuple and len(thing) == 2 and is_share(thing[0]) and is_share(thing[1])


class Numbers:
    """Whole numbers that look mixed but come the same in every run."""

    def __init__(self, start):
        self.state = start

    def below(self, bound):
        found = 0
        size = 1
        while size < bound * 1000:
            self.state = (self.state * 6364136223846793005 + 1442695040888963407) % 2 ** 64
            found = found * 2 ** 32 + self.state // 2 ** 32
            size = size * 2 ** 32
        return found % bound

    def signed(self, most):
        return self.below(2 * most + 1) - most

    def share(self, most):
        return as_share(Fraction(self.signed(most), 1 + self.below(most)))

    def point(self, most):
        return (self.share(most), self.share(most))

    def picked(self, things):
        return things[self.below(len(things))]

    def mixed(self, things):
        left = list(things)
        return [left.pop(self.below(len(left))) for number in range(len(left))]


# Things of all kinds that may stand where a name is asked for; none of them is a name.
ANY_THINGS = (
    0, 1, -1, 7, 10 ** 60 - 1, True, False, None, "", " ", "A", "Ab", "aB", "a1", "1", "a b", " a", "a ", "a\n", "a\t",
    "a.b", "a_b", "-", "~", "abcdefghi", [], ["a"], ["a", "b", "c"], (), ("a",), ("a", "b", "c"),
    [None, [True, ("a",)]], [[[[[[[["a"]]]]]]]], (((((((("a",),),),),),),),),
)


def book_of(lines, aparts=(), others=None):
    """A book by texts such as "a b c"; others by a list of such texts, or none where it is None."""
    book = Book()
    for row in lines:
        book.say_line(*row.split())
    for row in aparts:
        book.say_apart(*row.split())
    if others is not None:
        book.say_others([tuple(row.split()) for row in others])
    return book


# Nine points of two lines, a b c and d e f, and the meets of their cross lines; that g h i lie on one line is Pappus.
PAPPUS = ("a b c", "d e f", "a e g", "b d g", "a f h", "c d h", "b f i", "c e i")

# Two threes in sight of o, a b c and d e f, and the meets of their sides; that p q r lie on one line is Desargues.
DESARGUES = ("a d o", "b e o", "c f o", "a b p", "d e p", "b c q", "e f q", "a c r", "d f r")

# Six of the seven lines of the seven points of which any two have a third on their line; c e f is the seventh one. No
# drawing with fractions has all seven.
FANO = ("a b c", "a d e", "a f g", "b d f", "b e g", "c d g")

# All of a to h lie on one line with one another, but by and by: each line has two names with those ahead in common.
CHAIN = ("a b c", "a b d", "c d e", "a e f", "c f g", "e g h")


def chain_book():
    """x and y stand apart from the line of a to h; of a to h nothing but the CHAIN is said."""
    book = book_of(CHAIN, [name + " x y" for name in "abcdefgh"])
    book.say_others(list(itertools.combinations("abcdefgh", 3)))
    return book


def mixed_book(numbers, many, lines, gone):
    """A book of so many names and lines, with so many triples of which nothing is said."""
    threes = numbers.mixed(itertools.combinations("abcdefghij"[:many], 3))
    rows = [" ".join(row) for row in threes]
    return book_of(rows[:lines], rows[lines:lines + 4], rows[lines + 4:lines + 4 + gone])


def rows_of(book):
    return (book.names(), book.lines(), book.aparts())


def in_order(*names):
    return tuple(sorted(names))


def plain_exchanges(names):
    return [one for found in by_triples(in_order(*names)).values() for one in found]


@functools.lru_cache(maxsize=None)
def by_triples(names):
    """All plain exchanges of these names by the triple on which they rest, in order."""
    found = {row: [] for row in itertools.combinations(names, 3)}
    for one in itertools.permutations(names, 5):
        if one[1] < one[2] and one[3] < one[4]:
            found[in_order(*one[:3])].append(one)
    return found


def expected_needs(exchange):
    a, b, c, d, e = exchange
    return [in_order(a, b, d), in_order(a, c, e), in_order(a, b, e), in_order(a, c, d)]


def is_turned(three):
    one, other, third = three
    return [one > other, one > third, other > third].count(True) % 2 == 1


def expected_vector(exchange):
    a, b, c, d, e = exchange
    found = dict(zip(expected_needs(exchange), (1, 1, -1, -1)))
    if [is_turned(three) for three in ((a, b, d), (a, c, e), (a, b, e), (a, c, d))].count(True) % 2 == 1:
        found[()] = 1
    return found


def expected_exchanges(book, more=()):
    """The exchanges that rest on the book's lines, and on these triples more."""
    lines, aparts = {*book.lines(), *more}, set(book.aparts())
    found = [one for row, more in by_triples(in_order(*book.names())).items() if row in lines for one in more]
    return sorted(one for one in found if aparts.issuperset(expected_needs(one)))


def expected_targets(book, claim):
    aparts = set(book.aparts())
    found = by_triples(in_order(*book.names())).get(claim, [])
    return [one for one in found if {*expected_needs(one), in_order(one[0], one[3], one[4])} <= aparts]


def weights_hold(vectors, target, weights):
    """Whether by the weights each vector comes to a whole number, so too () with 2 alone, but not the target."""
    whole = lcm(*[bottom for top, bottom in weights.values()])
    parts = {key: top * whole // bottom for key, (top, bottom) in weights.items()}

    def comes_whole(one):
        return sum(number * parts.get(key, 0) for key, number in one.items()) % whole == 0

    return all(comes_whole(one) for one in [*vectors, {(): 2}]) and not comes_whole(target)


# A try that refutes is found late in these books, all other triples apart: the second try, the fourth try; in the last
# one e i runs beside b c in every try, as numbers 7 and 13 are alike, so j is never drawn.
SECOND_TRY = ("a b c", "b f h", "d g h")
FOURTH_TRY = ("a b d", "a f g", "b c f", "b e h", "c d e")
SIDE_BY_SIDE = ("b c d", "a c e", "f g h", "a b i", "e i j", "b c j")


def second_try_book():
    return book_of(SECOND_TRY, ["a b e"], [])


def fourth_try_book():
    return book_of(FOURTH_TRY, others=[])


def side_by_side_book():
    return book_of(SIDE_BY_SIDE, others=["c d j", "b d j"])


def expected_plan(book):
    names, lines, steps = set(book.names()), set(book.lines()), []
    while names:
        for name in sorted(names, reverse=True):
            own = sorted(row for row in lines if name in row)
            if len(own) < 3:
                break
        else:
            return ("core", sorted(names))
        steps.insert(0, (name, own))
        names.remove(name)
        lines.difference_update(own)
    return ("plan", steps)


def expected_numbers(k, many):
    return [as_share(Fraction(((k + 2) * (j * j + 3 * j + 5)) % 23 - 11, 1 + (k + j) % 3)) for j in range(many)]


def turned_by(one, other, third):
    """The span of three points of plain fractions."""
    return (other[0] - one[0]) * (third[1] - one[1]) - (other[1] - one[1]) * (third[0] - one[0])


def met(one, other, third, fourth):
    """Where two lines of plain fractions meet, by their equations; None where that is no one point."""
    rows = []
    for start, end in ((one, other), (third, fourth)):
        along, up = end[1] - start[1], start[0] - end[0]
        rows.append((along, up, along * start[0] + up * start[1]))
    (a, b, c), (d, e, f) = rows
    if a * e == b * d:
        return None
    return ((c * e - b * f) / (a * e - b * d), (a * f - c * d) / (a * e - b * d))


def expected_points(book, numbers):
    """The points of plain fractions of the book drawn by the numbers, or None."""
    kind, steps = expected_plan(book)
    left, points = [fraction(one) for one in numbers], {}
    for name, lines in steps if kind == "plan" else ():
        pairs = [[points[one] for one in row if one != name] for row in lines]
        if len(left) < 2 - len(pairs):
            return None
        if len(pairs) == 0:
            points[name] = (left.pop(0), left.pop(0))
        elif len(pairs) == 1:
            (start, end), t = pairs[0], left.pop(0)
            points[name] = tuple(x + t * (y - x) for x, y in zip(start, end)) if start != end else None
        else:
            points[name] = met(*pairs[0], *pairs[1])
        if points[name] is None:
            return None
    return points if kind == "plan" else None


def points_keep(book, points):
    spans = {row: turned_by(*[points[name] for name in row]) for row in book.lines() + book.aparts()}
    return not any(spans[row] for row in book.lines()) and all(spans[row] for row in book.aparts())


def expected_refutation(book, claim, tries):
    """The number of the first try that refutes the claim, and its points as shares; (None, None) where none does."""
    for k in range(tries):
        points = expected_points(book, expected_numbers(k, 2 * len(book.names())))
        if points is not None and points_keep(book, points) and turned_by(*[points[name] for name in claim]):
            return k, {name: (as_share(x), as_share(y)) for name, (x, y) in points.items()}
    return None, None
