"""The desk: rows of words that say or ask something of a book, each answered with a text."""

from linesaid.answers import settled
from linesaid.book import Book, check_unlike_names
from linesaid.errors import NoText
from linesaid.finding import in_rounds
from linesaid.grounds import stands
from linesaid.plans import plan
from linesaid.texts import (
    NOTHING, read_ground, read_whole, show_ground, show_list, show_names, show_share, show_whole,
)

# How many words may stand behind the first one of a row; behind "stands" stands a ground.
WORDS_BEHIND = {
    "line": (3,), "apart": (3,), "meet": (5,), "others": (0, 3), "names": (0,), "lines": (0,), "aparts": (0,),
    "ground": (4,), "claim": (5,), "plan": (0,),
}
STANDS = "stands "
MOST_ROUNDS = 3
MOST_TRIES = 30


class Desk:
    def __init__(self):
        self.book = Book()

    def say(self, row):
        if not isinstance(row, str):
            raise NoText("a row is a text")
        if row.startswith(STANDS):
            # The ground has blanks of its own: it is read whole.
            ground = read_ground(row[len(STANDS):])
            return "yes" if stands(self.book, ground) else "no"
        words = words_of(row)
        if words[0] in ("line", "apart", "meet", "others"):
            return say_row(self.book, words[0], words[1:])
        if words[0] == "ground":
            return ground_answer(self.book, words[1:])
        if words[0] == "claim":
            return claim_answer(self.book, words[1:])
        return list_answer(self.book, words[0])


def words_of(row):
    words = row.split(" ")
    if words[0] not in WORDS_BEHIND or len(words) - 1 not in WORDS_BEHIND[words[0]]:
        raise NoText("no row begins with this word and has so many words")
    if "" in words:
        raise NoText("words are parted by single blanks")
    return words


def say_row(book, kind, words):
    if kind == "line":
        book.say_line(words[0], words[1], words[2])
    elif kind == "apart":
        book.say_apart(words[0], words[1], words[2])
    elif kind == "meet":
        book.say_meet(words[0], words[1], words[2], words[3], words[4])
    else:
        check_unlike_names(words)
        book.say_others([tuple(sorted(words))] if words else [])
    return "ok"


def list_answer(book, kind):
    if kind == "names":
        return show_names(book.names() or [NOTHING])
    if kind == "lines":
        return show_list([show_names(row) for row in book.lines()])
    if kind == "aparts":
        return show_list([show_names(row) for row in book.aparts()])
    return plan_answer(plan(book))


def plan_answer(found):
    if found[0] == "core":
        return show_names(["core"] + found[1])
    return show_names(["plan"] + [step[0] for step in found[1]])


def ground_answer(book, words):
    rounds = read_up_to(words[3], MOST_ROUNDS)
    found = in_rounds(book, words[0], words[1], words[2], rounds)
    if found[0] == "ground":
        return show_ground(found[1])
    return "open " + show_whole(len(found[1]))


def claim_answer(book, words):
    # Both numbers are read ahead of the names: what is no row is refused ahead of what is no name.
    rounds = read_up_to(words[3], MOST_ROUNDS)
    tries = read_up_to(words[4], MOST_TRIES)
    found = settled(book, words[0], words[1], words[2], rounds, tries)
    if found[0] == "grounded":
        return "grounded " + show_whole(len(found[1]))
    if found[0] == "refuted":
        return "refuted " + show_points(found[1])
    return "open"


def show_points(points):
    return show_list([show_point(name, points[name]) for name in sorted(points)])


def show_point(name, place):
    return show_names([name, show_share(place[0]), show_share(place[1])])


def read_up_to(word, most):
    number = read_whole(word)
    if number < 0 or number > most:
        raise NoText("the number is too small or too great")
    return number
