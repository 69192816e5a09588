import inspect
import unittest

from linesaid import (
    answers, book, desk, drawings, exchanges, finding, grounds, plans, points, shares, sums, texts, triples,
)

ARGUMENTS = (
    (shares.share, ["top", "bottom"]),
    (shares.plus, ["one", "other"]),
    (shares.minus, ["one", "other"]),
    (shares.times, ["one", "other"]),
    (shares.over, ["one", "other"]),
    (points.span, ["one", "other", "third"]),
    (points.between, ["one", "other", "t"]),
    (points.crossing, ["one", "other", "third", "fourth"]),
    (triples.is_name, ["thing"]),
    (triples.triple, ["A", "B", "C"]),
    (triples.turn, ["A", "B", "C"]),
    (triples.all_triples, ["names"]),
    (book.Book, []),
    (book.Book().say_line, ["A", "B", "C"]),
    (book.Book().say_apart, ["A", "B", "C"]),
    (book.Book().say_meet, ["P", "A", "B", "C", "D"]),
    (book.Book().say_others, ["but"]),
    (book.Book().names, []),
    (book.Book().lines, []),
    (book.Book().aparts, []),
    (exchanges.rests_on, ["exchange"]),
    (exchanges.needs, ["exchange"]),
    (exchanges.vector, ["exchange"]),
    (exchanges.plain, ["exchange"]),
    (exchanges.exchanges, ["book"]),
    (exchanges.targets, ["book", "claim"]),
    (sums.reach, ["vectors", "target"]),
    (grounds.stands, ["book", "ground"]),
    (grounds.shortened, ["ground"]),
    (grounds.joined, ["one", "other"]),
    (grounds.renamed, ["ground", "by"]),
    (finding.in_one_step, ["book", "A", "B", "C"]),
    (finding.in_rounds, ["book", "A", "B", "C", "rounds"]),
    (drawings.Drawing, []),
    (drawings.Drawing().put, ["A", "x", "y"]),
    (drawings.Drawing().on, ["A", "B", "C", "t"]),
    (drawings.Drawing().meet, ["P", "A", "B", "C", "D"]),
    (drawings.Drawing().place, ["A"]),
    (drawings.Drawing().names, []),
    (drawings.Drawing().built, []),
    (drawings.Drawing().keeps, ["book"]),
    (plans.plan, ["book"]),
    (plans.drawn, ["book", "numbers"]),
    (plans.numbers_of, ["k", "many"]),
    (plans.refuted, ["book", "A", "B", "C", "tries"]),
    (answers.settled, ["book", "A", "B", "C", "rounds", "tries"]),
    (texts.show_ground, ["ground"]),
    (texts.read_ground, ["text"]),
    (texts.show_share, ["one"]),
    (desk.Desk, []),
    (desk.Desk().say, ["row"]),
)


class InterfaceTest(unittest.TestCase):
    def test_arguments_are_called_as_the_document_says(self):
        for function, expected in ARGUMENTS:
            with self.subTest(function=function.__name__):
                self.assertEqual(list(inspect.signature(function).parameters), expected)


if __name__ == "__main__":
    unittest.main()
