import copy
import itertools
import unittest
from fractions import Fraction

from helper import (
    DESARGUES, PAPPUS, Numbers, book_of, expected_exchanges, expected_needs, expected_targets, fraction, in_order,
    mixed_book,
)
from linesaid.book import Book
from linesaid.exchanges import exchanges, needs, plain, rests_on, targets, vector
from linesaid.points import between, span
from linesaid.triples import turn

FIVES = (("a", "b", "c", "d", "e"), ("a", "ab", "abc", "b", "ba"))


def all_orders():
    return [told for five in FIVES for told in itertools.permutations(five)]


def other_signs(one):
    return {key: number if key == () else -number for key, number in one.items()}


class RestsOnTest(unittest.TestCase):
    def test_written_out(self):
        self.assertEqual(rests_on(("a", "b", "c", "d", "e")), ("a", "b", "c"))
        self.assertEqual(rests_on(("e", "d", "c", "b", "a")), ("c", "d", "e"))
        self.assertEqual(rests_on(("b", "ab", "a", "ba", "abc")), ("a", "ab", "b"))

    def test_any_order(self):
        for told in all_orders():
            self.assertEqual(rests_on(told), in_order(*told[:3]))


class NeedsTest(unittest.TestCase):
    def test_written_out(self):
        told = [("a", "b", "d"), ("a", "c", "e"), ("a", "b", "e"), ("a", "c", "d")]
        self.assertEqual(needs(("a", "b", "c", "d", "e")), told)
        told = [("b", "d", "e"), ("a", "c", "e"), ("a", "d", "e"), ("b", "c", "e")]
        self.assertEqual(needs(("e", "d", "c", "b", "a")), told)
        told = [("ab", "b", "ba"), ("a", "abc", "b"), ("ab", "abc", "b"), ("a", "b", "ba")]
        self.assertEqual(needs(("b", "ab", "a", "ba", "abc")), told)

    def test_any_order(self):
        for told in all_orders():
            self.assertEqual(needs(told), expected_needs(told))
            self.assertEqual(len(set(needs(told))), 4)


class VectorTest(unittest.TestCase):
    def test_written_out(self):
        told = {("a", "b", "d"): 1, ("a", "c", "e"): 1, ("a", "b", "e"): -1, ("a", "c", "d"): -1}
        self.assertEqual(vector(("a", "b", "c", "d", "e")), told)
        # bad, bce, bae, bcd: the first and the third are turned.
        told = {("a", "b", "d"): 1, ("b", "c", "e"): 1, ("a", "b", "e"): -1, ("b", "c", "d"): -1}
        self.assertEqual(vector(("b", "a", "c", "d", "e")), told)
        # cab, cde, cae, cdb: the third alone is turned.
        told = {("a", "b", "c"): 1, ("c", "d", "e"): 1, ("a", "c", "e"): -1, ("b", "c", "d"): -1, (): 1}
        self.assertEqual(vector(("c", "a", "d", "b", "e")), told)

    def test_any_order(self):
        seen = set()
        for told in all_orders():
            a, b, c, d, e = told
            expected = dict(zip(expected_needs(told), (1, 1, -1, -1)))
            turns = [turn(a, b, d), turn(a, c, e), turn(a, b, e), turn(a, c, d)]
            if turns.count(-1) % 2 == 1:
                expected[()] = 1
            self.assertEqual(vector(told), expected)
            seen.add(turns.count(-1))
        self.assertEqual(seen, {0, 1, 2, 3, 4})

    def test_changes_about(self):
        for a, b, c, d, e in all_orders():
            here = vector((a, b, c, d, e))
            self.assertEqual(vector((a, c, b, d, e)), other_signs(here))
            self.assertEqual(vector((a, b, c, e, d)), other_signs(here))
            self.assertEqual(vector((a, c, b, e, d)), here)

    def test_the_products_of_spans_are_alike(self):
        numbers = Numbers(31)
        for told in all_orders():
            places = self.places_on_a_line(numbers, told)
            product = Fraction(1)
            for key, number in vector(told).items():
                if key == ():
                    product = -product
                else:
                    product = product * fraction(span(*[places[name] for name in key])) ** number
            self.assertEqual(product, 1)

    def places_on_a_line(self, numbers, exchange):
        while True:
            places = {name: numbers.point(30) for name in exchange}
            a, b, c = exchange[:3]
            places[c] = between(places[a], places[b], numbers.share(9))
            if all(span(*[places[name] for name in three]) != (0, 1) for three in expected_needs(exchange)):
                return places


class PlainTest(unittest.TestCase):
    def test_written_out(self):
        here = ("c", "a", "d", "b", "e")
        self.assertEqual(plain(here), (1, here))
        self.assertEqual(plain(("c", "d", "a", "b", "e")), (-1, here))
        self.assertEqual(plain(("c", "a", "d", "e", "b")), (-1, here))
        self.assertEqual(plain(("c", "d", "a", "e", "b")), (1, here))

    def test_any_order(self):
        for told in all_orders():
            sign, found = plain(told)
            a, b, c, d, e = found
            self.assertTrue(b < c and d < e)
            self.assertEqual((a, {b, c}, {d, e}), (told[0], set(told[1:3]), set(told[3:5])))
            self.assertEqual(vector(found), vector(told) if sign == 1 else other_signs(vector(told)))
            self.assertIn(sign, (1, -1))
            self.assertEqual(plain(found), (1, found))
            self.assertIs(type(found), tuple)


class ExchangesTest(unittest.TestCase):
    def test_written_out(self):
        book = book_of(["a b c"], ["a b d", "a c e", "a b e"])
        self.assertEqual(exchanges(book), [])
        book.say_apart("d", "c", "a")
        self.assertEqual(exchanges(book), [("a", "b", "c", "d", "e")])
        book.say_others([])
        told = [("a", "b", "c", "d", "e"), ("b", "a", "c", "d", "e"), ("c", "a", "b", "d", "e")]
        self.assertEqual(exchanges(book), told)

    def test_none(self):
        self.assertEqual(exchanges(Book()), [])
        self.assertEqual(exchanges(book_of(["a b c"])), [])
        self.assertEqual(exchanges(book_of([], ["a b c", "a d e"], [])), [])
        self.assertEqual(exchanges(book_of(["a b c"], ["a b d"], [])), [])
        self.assertEqual(exchanges(book_of(["a b c", "c d e"])), [])

    def test_known_books(self):
        for rows, left, many in ((PAPPUS, "g h i", 360), (DESARGUES, "p q r", 567)):
            book = book_of(rows, others=[left])
            self.check(book)
            self.assertEqual(len(exchanges(book)), many)

    def test_names_that_are_begins_of_one_another(self):
        book = book_of(["b ab a", "abc ba b"], others=[])
        self.check(book)
        self.assertIn(("a", "ab", "b", "abc", "ba"), exchanges(book))

    def test_mixed_books(self):
        numbers = Numbers(32)
        for many in (4, 5, 6, 7, 8):
            for lines in (0, 1, 3, 6):
                for gone in (0, 3):
                    self.check(mixed_book(numbers, many, min(lines, many - 4 + lines // 3), gone))

    def test_a_full_book(self):
        book = mixed_book(Numbers(33), 10, 20, 0)
        self.assertEqual(len(book.lines()), 20)
        self.check(book)

    def check(self, book):
        told = exchanges(book)
        self.assertEqual(told, expected_exchanges(book))
        self.assertEqual(told, sorted(set(told)))


class TargetsTest(unittest.TestCase):
    def test_written_out(self):
        book = book_of([], ["a b d", "a c e", "a b e", "a c d"])
        claim = ("a", "b", "c")
        self.assertEqual(targets(book, claim), [])
        book.say_apart("e", "a", "d")
        self.assertEqual(targets(book, claim), [("a", "b", "c", "d", "e")])
        book.say_others([claim])
        told = [("a", "b", "c", "d", "e"), ("b", "a", "c", "d", "e"), ("c", "a", "b", "d", "e")]
        self.assertEqual(targets(book, claim), told)

    def test_where_a_d_e_are_a_line(self):
        book = book_of(["a d e"], ["a b d", "a c e", "a b e", "a c d"])
        self.assertEqual(targets(book, ("a", "b", "c")), [])

    def test_of_a_line_and_of_an_apart(self):
        for book in (book_of(["a b c"], ["a b d", "a b e"], []), book_of([], ["a b c", "a d e"], [])):
            self.assertEqual(len(targets(book, ("a", "b", "c"))), 3)

    def test_none(self):
        self.assertEqual(targets(Book(), ("a", "b", "c")), [])
        self.assertEqual(targets(book_of(["a b c"]), ("a", "b", "c")), [])
        self.assertEqual(targets(book_of(["a b c"], ["a b d"], []), ("a", "b", "c")), [])

    def test_a_claim_of_other_names(self):
        book = book_of([], ["a b c", "a d e"], [])
        for claim in (("x", "y", "z"), ("a", "x", "y"), ("a", "b", "x")):
            self.assertEqual(targets(book, claim), [])

    def test_known_books(self):
        for rows, left, many in ((PAPPUS, "g h i", 39), (DESARGUES, "p q r", 57)):
            book = book_of(rows, others=[left])
            self.assertEqual(len(targets(book, tuple(left.split()))), many)
            self.check(book)

    def test_mixed_books(self):
        numbers = Numbers(34)
        for many in (4, 5, 6, 7):
            for lines in (0, 2, 4):
                for gone in (0, 3):
                    self.check(mixed_book(numbers, many, min(lines, many - 4 + lines // 3), gone))

    def check(self, book):
        for claim in itertools.combinations(book.names(), 3):
            told = targets(book, claim)
            self.assertEqual(told, expected_targets(book, claim))
            self.assertEqual(told, sorted(set(told)))


class FurtherRowsTest(unittest.TestCase):
    def test_right_again_behind_each_row(self):
        book = Book()
        claim = ("a", "b", "c")
        for row in ("apart a b d", "line a d e", "apart a c e", "others", "line c e f", "apart d f g", "others"):
            words = row.split()
            if words[0] == "others":
                book.say_others([claim])
            else:
                getattr(book, "say_" + words[0])(*words[1:])
            self.assertEqual(exchanges(book), expected_exchanges(book))
            self.assertEqual(targets(book, claim), expected_targets(book, claim))
        self.assertTrue(exchanges(book) and targets(book, claim))
        book.say_line(*claim)
        self.assertEqual(exchanges(book), expected_exchanges(book))


class OwnTest(unittest.TestCase):
    def test_told_lists_and_dicts_are_the_askers_own(self):
        book = book_of(PAPPUS, others=["g h i"])
        five = ("c", "a", "d", "b", "e")
        deeds = (
            lambda: needs(five), lambda: vector(five), lambda: exchanges(book), lambda: targets(book, ("g", "h", "i")),
        )
        for deed in deeds:
            told = deed()
            kept = copy.deepcopy(told)
            told.clear()
            self.assertEqual(deed(), kept)
            again = deed()
            again.pop(("a", "b", "c") if isinstance(again, dict) else 0)
            self.assertEqual(deed(), kept)

    def test_the_book_is_as_it_was(self):
        book = book_of(DESARGUES, others=["p q r"])
        before = (book.names(), book.lines(), book.aparts())
        told = exchanges(book)
        targets(book, ("p", "q", "r"))
        self.assertEqual((book.names(), book.lines(), book.aparts()), before)
        kept = list(told)
        book.say_line("p", "q", "r")
        self.assertEqual(told, kept)


if __name__ == "__main__":
    unittest.main()
