"""Plans: an order of a book's names in which each lies on at most two lines of names ahead; drawings along a plan."""

from linesaid.book import claim_in
from linesaid.drawings import Drawing
from linesaid.errors import NoStep
from linesaid.shares import ZERO, share

# Two lines fix a point; each line fewer leaves it free by one number more.
LINES_OF_A_POINT = 2


def plan(book):
    left = book.names()
    lines = book.lines()
    steps = []
    while left:
        name = last_free(left, lines)
        if name is None:
            return ("core", left)
        steps.append((name, lines_with(name, lines)))
        left = [one for one in left if one != name]
        lines = [row for row in lines if name not in row]
    steps.reverse()
    return ("plan", steps)


def last_free(names, lines):
    free = [name for name in names if len(lines_with(name, lines)) <= LINES_OF_A_POINT]
    return max(free, default=None)


def lines_with(name, lines):
    return [row for row in lines if name in row]


def drawn(book, numbers):
    found = plan(book)
    if found[0] == "core":
        return None
    return drawn_along(found[1], numbers)


def drawn_along(steps, numbers):
    if len(numbers) < numbers_needed(steps):
        return None
    drawing = Drawing()
    used = 0
    for name, lines in steps:
        try:
            draw_step(drawing, name, lines, numbers[used:])
        except NoStep:
            return None
        used = used + numbers_of_step(lines)
    return drawing


def draw_step(drawing, name, lines, numbers):
    """Gives the name its point, by the first of the numbers."""
    pairs = [[one for one in row if one != name] for row in lines]
    if len(pairs) == 0:
        drawing.put(name, numbers[0], numbers[1])
    elif len(pairs) == 1:
        drawing.on(name, pairs[0][0], pairs[0][1], numbers[0])
    else:
        drawing.meet(name, pairs[0][0], pairs[0][1], pairs[1][0], pairs[1][1])


def numbers_needed(steps):
    return sum([numbers_of_step(step[1]) for step in steps])


def numbers_of_step(lines):
    return LINES_OF_A_POINT - len(lines)


def numbers_of(k, many):
    return [share((k + 2) * (j * j + 3 * j + 5) % 23 - 11, 1 + (k + j) % 3) for j in range(many)]


def refuted(book, A, B, C, tries):
    claim = claim_in(book, A, B, C)
    found = plan(book)
    if found[0] == "core":
        return None
    many = numbers_needed(found[1])
    for k in range(tries):
        drawing = drawn_along(found[1], numbers_of(k, many))
        if drawing is not None and drawing.span_of(claim) != ZERO and drawing.keeps(book):
            return drawing
    return None
