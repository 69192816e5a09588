"""Texts: how names, numbers and grounds are written, and how they are read again."""

from linesaid.errors import NoText
from linesaid.exchanges import plain, rests_on
from linesaid.triples import is_name

NOTHING = "none"
FIGURES = "0123456789"
MOST_FIGURES = 60


def show_names(names):
    return " ".join(names)


def show_list(texts):
    return "; ".join(texts) if texts else NOTHING


def show_whole(number):
    if number < 0:
        return "-" + show_whole(-number)
    # Piece by piece: Python's own str refuses numbers of some thousand figures.
    pieces = []
    while number >= 10 ** 60:
        pieces.append(str(number % 10 ** 60).zfill(60))
        number = number // 10 ** 60
    pieces.append(str(number))
    pieces.reverse()
    return "".join(pieces)


def show_share(one):
    if one[1] == 1:
        return show_whole(one[0])
    return show_whole(one[0]) + "/" + show_whole(one[1])


def show_ground(ground):
    return show_list([show_step(step) for step in ground])


def show_step(step):
    parts = [show_whole(often) + "*" + ".".join(exchange) for often, exchange in step[2]]
    return " ".join([show_names(step[0]) + ":", show_names(step[1]), "="] + parts)


def read_ground(text):
    if not isinstance(text, str):
        raise NoText("a ground is written as a text")
    if text == NOTHING:
        return []
    return [read_step(piece) for piece in text.split("; ")]


def read_step(text):
    by_colon = text.partition(": ")
    by_sign = by_colon[2].partition(" =")
    if by_sign[1] == "":
        raise NoText("a step has a colon behind its claim and = behind its target")
    claim = read_names(by_colon[0], " ", 3)
    target = read_exchange(by_sign[0], " ")
    if rests_on(target) != claim:
        raise NoText("a target rests on its claim, a triple in order")
    return (claim, target, read_parts(by_sign[2]))


def read_parts(text):
    # Each part has a blank ahead, so nothing stands ahead of the first blank.
    words = text.split(" ")
    if words[0] != "":
        raise NoText("a blank stands ahead of each part")
    parts = [read_part(word) for word in words[1:]]
    fives = [part[1] for part in parts]
    if fives != sorted(set(fives)):
        raise NoText("parts are in order, each exchange once")
    return parts


def read_part(text):
    by_star = text.partition("*")
    often = read_whole(by_star[0])
    if often == 0:
        raise NoText("no part is taken 0 times")
    return (often, read_exchange(by_star[2], "."))


def read_exchange(text, sign):
    exchange = read_names(text, sign, 5)
    if plain(exchange) != (1, exchange):
        raise NoText("an exchange is written as the plain one")
    return exchange


def read_names(text, sign, many):
    """So many unlike names with the sign between, as a tuple."""
    names = tuple(text.split(sign))
    if len(names) != many or len(set(names)) < many:
        raise NoText("there are to be so many unlike names")
    if not all([is_name(name) for name in names]):
        raise NoText("a name is a text of one to eight small letters")
    return names


def read_whole(text):
    figures = text[1:] if text.startswith("-") else text
    if len(figures) < 1 or len(figures) > MOST_FIGURES:
        raise NoText("a whole number has one to sixty figures")
    if not all([sign in FIGURES for sign in figures]):
        raise NoText("a whole number is written by figures")
    number = int(text)
    # Each number is written in one way: without noughts ahead, and 0 without a sign.
    if show_whole(number) != text:
        raise NoText("a whole number has no needless noughts or signs")
    return number
