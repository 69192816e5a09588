"""What several tests use: plain fractions to compare with, numbers and points that are the same in every run, things
that are no names, and books."""

from fractions import Fraction
from math import gcd

from linesaid.book import Book


def fraction(one):
    return Fraction(one[0], one[1])


def as_share(number):
    exact = Fraction(number)
    return (exact.numerator, exact.denominator)


def point(x, y):
    return (as_share(x), as_share(y))


def is_whole(thing):
    return type(thing) is int


def is_share(thing):
    return (
        type(thing) is tuple
        and len(thing) == 2
        and is_whole(thing[0])
        and is_whole(thing[1])
        and thing[1] >= 1
        and gcd(thing[0], thing[1]) == 1
    )


def is_point(thing):
    return type(thing) is tuple and len(thing) == 2 and is_share(thing[0]) and is_share(thing[1])


class Numbers:
    """Whole numbers that look mixed but come the same in every run."""

    def __init__(self, start):
        self.state = start

    def below(self, bound):
        found = 0
        size = 1
        while size < bound * 1000:
            self.state = (self.state * 6364136223846793005 + 1442695040888963407) % 2 ** 64
            found = found * 2 ** 32 + self.state // 2 ** 32
            size = size * 2 ** 32
        return found % bound

    def signed(self, most):
        return self.below(2 * most + 1) - most

    def share(self, most):
        return as_share(Fraction(self.signed(most), 1 + self.below(most)))

    def point(self, most):
        return (self.share(most), self.share(most))

    def picked(self, things):
        return things[self.below(len(things))]

    def mixed(self, things):
        left = list(things)
        return [left.pop(self.below(len(left))) for number in range(len(left))]


# Things of all kinds that may stand where a name is asked for; none of them is a name.
ANY_THINGS = (
    0, 1, -1, 7, 10 ** 60 - 1, True, False, None, "", " ", "A", "Ab", "aB", "a1", "1", "a b", " a", "a ", "a\n", "a\t",
    "a.b", "a_b", "-", "~", "abcdefghi", [], ["a"], ["a", "b", "c"], (), ("a",), ("a", "b", "c"),
    [None, [True, ("a",)]], [[[[[[[["a"]]]]]]]], (((((((("a",),),),),),),),),
)


def book_of(lines, aparts=(), others=None):
    """A book by texts such as "a b c"; others by a list of such texts, or none where it is None."""
    book = Book()
    for row in lines:
        book.say_line(*row.split())
    for row in aparts:
        book.say_apart(*row.split())
    if others is not None:
        book.say_others([tuple(row.split()) for row in others])
    return book


# Nine points of two lines, a b c and d e f, and the meets of their cross lines; that g h i lie on one line is Pappus.
PAPPUS = ("a b c", "d e f", "a e g", "b d g", "a f h", "c d h", "b f i", "c e i")

# Two threes in sight of o, a b c and d e f, and the meets of their sides; that p q r lie on one line is Desargues.
DESARGUES = ("a d o", "b e o", "c f o", "a b p", "d e p", "b c q", "e f q", "a c r", "d f r")
