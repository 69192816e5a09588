"""Answers: a claim is grounded, refuted or open."""

from linesaid.finding import in_rounds
from linesaid.plans import refuted


def settled(book, A, B, C, rounds, tries):
    found = in_rounds(book, A, B, C, rounds)
    if found[0] == "ground":
        return ("grounded", found[1])
    drawing = refuted(book, A, B, C, tries)
    if drawing is not None:
        return ("refuted", dict([(name, drawing.place(name)) for name in book.names()]))
    return ("open", found[1])
