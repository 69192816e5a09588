"""Books: what is said of points by name, as lines and aparts."""

from linesaid.errors import NoName, NoRow, TooMany
from linesaid.triples import all_triples, is_name, triple

MOST_NAMES = 10
MOST_LINES = 20


class Book:
    def __init__(self):
        self.said_lines = {}
        self.said_aparts = {}

    def say_line(self, A, B, C):
        check_unlike_names([A, B, C])
        self.take_lines([triple(A, B, C)])

    def say_apart(self, A, B, C):
        check_unlike_names([A, B, C])
        row = triple(A, B, C)
        if row in self.said_lines:
            raise NoRow("these three lie on one line")
        self.check_room_for_names([row])
        self.said_aparts[row] = True

    def say_meet(self, P, A, B, C, D):
        check_unlike_names([P, A, B])
        check_unlike_names([P, C, D])
        first = triple(P, A, B)
        second = triple(P, C, D)
        if first == second:
            raise NoName("the two pairs are the same two names")
        self.take_lines([first, second])

    def say_others(self, but):
        left_out = [tuple(sorted(three)) for three in but]
        for row in all_triples(self.names()):
            if row not in self.said_lines and row not in left_out:
                self.said_aparts[row] = True

    def names(self):
        return names_of(list(self.said_lines) + list(self.said_aparts))

    def lines(self):
        return sorted(self.said_lines)

    def aparts(self):
        return sorted(self.said_aparts)

    def take_lines(self, rows):
        # All is checked ahead of the first change, so that what is refused changes nothing.
        for row in rows:
            if row in self.said_aparts:
                raise NoRow("these three stand apart")
        self.check_room_for_names(rows)
        fresh = [row for row in rows if row not in self.said_lines]
        if len(self.said_lines) + len(fresh) > MOST_LINES:
            raise TooMany("a book has at most twenty lines")
        for row in fresh:
            self.said_lines[row] = True

    def check_room_for_names(self, rows):
        if len(names_of([self.names()] + rows)) > MOST_NAMES:
            raise TooMany("a book has at most ten names")


def names_of(rows):
    found = {}
    for row in rows:
        for name in row:
            found[name] = True
    return sorted(found)


def check_unlike_names(things):
    for thing in things:
        if not is_name(thing):
            raise NoName("a name is a text of one to eight small letters")
    if len(set(things)) < len(things):
        raise NoName("two of the names are alike")


def claim_in(book, A, B, C):
    """The triple of three unlike names of the book."""
    names = book.names()
    for thing in (A, B, C):
        if thing not in names:
            raise NoName("the book has no such name")
    check_unlike_names([A, B, C])
    return triple(A, B, C)
