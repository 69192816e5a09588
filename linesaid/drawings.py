"""Drawings: points for names, given step by step, and the lines by which they were given."""

from linesaid.errors import NoName, NoStep, TooMany
from linesaid.points import between, crossing, span
from linesaid.shares import ZERO
from linesaid.triples import is_name, triple

MOST_POINTS = 10


class Drawing:
    def __init__(self):
        self.point_of = {}
        self.built_lines = {}

    def put(self, A, x, y):
        self.check_new(A)
        self.check_room()
        self.point_of[A] = (x, y)

    def on(self, A, B, C, t):
        self.check_new(A)
        start = self.place(B)
        end = self.place(C)
        self.check_room()
        if start == end:
            raise NoStep("the two points are alike")
        self.point_of[A] = between(start, end, t)
        self.built_lines[triple(A, B, C)] = True

    def meet(self, P, A, B, C, D):
        self.check_new(P)
        four = [self.place(name) for name in (A, B, C, D)]
        self.check_room()
        found = crossing(four[0], four[1], four[2], four[3])
        if found is None:
            raise NoStep("the two pairs don't meet in one point")
        self.point_of[P] = found
        self.built_lines[triple(P, A, B)] = True
        self.built_lines[triple(P, C, D)] = True

    def place(self, A):
        if not self.has_point(A):
            raise NoName("no point has this name")
        return self.point_of[A]

    def names(self):
        return sorted(self.point_of)

    def built(self):
        return sorted(self.built_lines)

    def keeps(self, book):
        if not all([self.has_point(name) for name in book.names()]):
            return False
        if any([self.span_of(row) != ZERO for row in book.lines()]):
            return False
        return not any([self.span_of(row) == ZERO for row in book.aparts()])

    def span_of(self, three):
        return span(self.place(three[0]), self.place(three[1]), self.place(three[2]))

    def has_point(self, thing):
        # Only a name is looked up: a thing such as a list can't be a key.
        return is_name(thing) and thing in self.point_of

    def check_new(self, thing):
        if not is_name(thing):
            raise NoName("a name is a text of one to eight small letters")
        if thing in self.point_of:
            raise NoName("the name has a point already")

    def check_room(self):
        if len(self.point_of) >= MOST_POINTS:
            raise TooMany("a drawing has at most ten points")
