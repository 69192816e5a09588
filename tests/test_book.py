import copy
import itertools
import unittest

from helper import ANY_THINGS, Numbers, book_of, rows_of
from linesaid.book import Book
from linesaid.errors import NoName, NoRow, SaidError, TooMany

TEN = list("abcdefghij")


def full_of_names():
    return book_of(["a b c", "d e f", "g h i"], ["a b j"])


def full_of_lines(many):
    """A book of the ten names with so many lines: the first triples of a to f, which are twenty."""
    book = Book()
    for three in list(itertools.combinations("abcdef", 3))[:many]:
        book.say_line(*three)
    book.say_apart("g", "h", "i")
    book.say_apart("a", "b", "j")
    return book


class SayingTest(unittest.TestCase):
    def test_an_empty_book(self):
        self.assertEqual(rows_of(Book()), ([], [], []))

    def test_a_line_in_any_order(self):
        for told in itertools.permutations(("a", "ab", "b")):
            book = Book()
            self.assertIsNone(book.say_line(*told))
            self.assertEqual(rows_of(book), (["a", "ab", "b"], [("a", "ab", "b")], []))

    def test_apart_in_any_order(self):
        for told in itertools.permutations(("a", "ab", "b")):
            book = Book()
            self.assertIsNone(book.say_apart(*told))
            self.assertEqual(rows_of(book), (["a", "ab", "b"], [], [("a", "ab", "b")]))

    def test_a_meet_in_any_order(self):
        for pairs in itertools.permutations((("b", "c"), ("d", "e"))):
            for first in itertools.permutations(pairs[0]):
                for second in itertools.permutations(pairs[1]):
                    book = Book()
                    self.assertIsNone(book.say_meet("p", *first, *second))
                    lines = [("b", "c", "p"), ("d", "e", "p")]
                    self.assertEqual(rows_of(book), (["b", "c", "d", "e", "p"], lines, []))

    def test_a_meet_whose_pairs_share_a_name(self):
        for told in (("b", "c", "b", "d"), ("c", "b", "b", "d"), ("b", "c", "d", "b"), ("c", "b", "d", "b")):
            book = Book()
            book.say_meet("a", *told)
            self.assertEqual(rows_of(book), (["a", "b", "c", "d"], [("a", "b", "c"), ("a", "b", "d")], []))

    def test_a_row_said_again_stays_as_it_is(self):
        book = book_of(["a b c"], ["a b d"])
        before = rows_of(book)
        for told in itertools.permutations("abc"):
            book.say_line(*told)
        for told in itertools.permutations("abd"):
            book.say_apart(*told)
        self.assertEqual(rows_of(book), before)

    def test_a_meet_said_again_or_half_said_ahead(self):
        book = book_of(["d e p"])
        book.say_meet("p", "b", "c", "d", "e")
        before = rows_of(book)
        self.assertEqual(before[1], [("b", "c", "p"), ("d", "e", "p")])
        book.say_meet("p", "e", "d", "c", "b")
        self.assertEqual(rows_of(book), before)

    def test_names_are_those_of_lines_and_aparts(self):
        book = book_of(["b z ba"], ["a ab aa"])
        self.assertEqual(book.names(), ["a", "aa", "ab", "b", "ba", "z"])
        self.assertEqual(book.lines(), [("b", "ba", "z")])
        self.assertEqual(book.aparts(), [("a", "aa", "ab")])

    def test_all_is_told_in_order(self):
        book = book_of(["h i j", "a c b", "a b d"], ["e h j", "b a e", "a e c"])
        self.assertEqual(book.names(), ["a", "b", "c", "d", "e", "h", "i", "j"])
        self.assertEqual(book.lines(), [("a", "b", "c"), ("a", "b", "d"), ("h", "i", "j")])
        self.assertEqual(book.aparts(), [("a", "b", "e"), ("a", "c", "e"), ("e", "h", "j")])

    def test_two_books_beside_one_another(self):
        one, other = Book(), Book()
        one.say_line("a", "b", "c")
        other.say_apart("a", "b", "c")
        other.say_meet("p", "q", "r", "s", "t")
        self.assertEqual(rows_of(one), (["a", "b", "c"], [("a", "b", "c")], []))
        self.assertEqual(other.aparts(), [("a", "b", "c")])
        self.assertEqual(other.lines(), [("p", "q", "r"), ("p", "s", "t")])
        self.assertEqual(rows_of(Book()), ([], [], []))


class OthersTest(unittest.TestCase):
    def test_without_triples_left_out(self):
        book = book_of(["a b c", "b d e"], ["a c d"])
        self.assertIsNone(book.say_others([]))
        lines = [("a", "b", "c"), ("b", "d", "e")]
        self.assertEqual(book.lines(), lines)
        self.assertEqual(book.aparts(), [row for row in itertools.combinations("abcde", 3) if row not in lines])

    def test_with_triples_left_out(self):
        book = book_of(["a b c", "b d e"])
        book.say_others([("c", "d", "e"), ("a", "b", "d")])
        gone = [("a", "b", "c"), ("b", "d", "e"), ("c", "d", "e"), ("a", "b", "d")]
        self.assertEqual(book.aparts(), [row for row in itertools.combinations("abcde", 3) if row not in gone])

    def test_a_triple_left_out_by_names_in_any_order(self):
        for told in itertools.permutations("abd"):
            book = book_of(["a b c"], ["a c d"])
            book.say_others([told])
            self.assertEqual(book.aparts(), [("a", "c", "d"), ("b", "c", "d")])

    def test_a_line_or_an_apart_left_out_stays(self):
        book = book_of(["a b c"], ["a b d"])
        book.say_others([("a", "b", "c"), ("a", "b", "d")])
        self.assertEqual(book.lines(), [("a", "b", "c")])
        self.assertEqual(book.aparts(), [("a", "b", "d"), ("a", "c", "d"), ("b", "c", "d")])

    def test_triples_of_other_names_do_not_matter(self):
        book = book_of(["a b c"], ["a b d"])
        book.say_others([("x", "y", "z"), ("a", "b", "z"), ("a", "c", "zz")])
        self.assertEqual(book.names(), ["a", "b", "c", "d"])
        self.assertEqual(book.aparts(), [("a", "b", "d"), ("a", "c", "d"), ("b", "c", "d")])

    def test_a_triple_left_out_twice(self):
        book = book_of(["a b c"], ["a b d"])
        book.say_others([("a", "c", "d")] * 3)
        self.assertEqual(book.aparts(), [("a", "b", "d"), ("b", "c", "d")])

    def test_of_an_empty_book(self):
        book = Book()
        book.say_others([])
        book.say_others([("a", "b", "c")])
        self.assertEqual(rows_of(book), ([], [], []))

    def test_of_a_book_of_one_row(self):
        book = book_of(["a b c"], others=[])
        self.assertEqual(rows_of(book), (["a", "b", "c"], [("a", "b", "c")], []))

    def test_behind_further_names(self):
        book = book_of(["a b c"], ["a b d"], [])
        self.assertEqual(len(book.aparts()), 3)
        book.say_line("a", "d", "e")
        self.assertEqual(len(book.aparts()), 3)
        book.say_others([])
        self.assertEqual(len(book.aparts()), 8)
        self.assertEqual(book.lines(), [("a", "b", "c"), ("a", "d", "e")])

    def test_a_triple_left_out_is_taken_by_a_later_one(self):
        book = book_of(["a b c"], ["a b d"], ["a c d"])
        self.assertNotIn(("a", "c", "d"), book.aparts())
        book.say_others([])
        self.assertIn(("a", "c", "d"), book.aparts())

    def test_a_triple_left_out_may_be_a_line(self):
        book = book_of(["a b c"], ["a b d"], ["a c d"])
        book.say_line("d", "c", "a")
        self.assertEqual(book.lines(), [("a", "b", "c"), ("a", "c", "d")])

    def test_of_full_books(self):
        book = full_of_names()
        book.say_others([])
        self.assertEqual((len(book.names()), len(book.lines()), len(book.aparts())), (10, 3, 117))
        book = full_of_lines(20)
        book.say_others([])
        self.assertEqual((len(book.names()), len(book.lines()), len(book.aparts())), (10, 20, 100))


class RefusalTest(unittest.TestCase):
    def refused(self, error, book, deed, *told):
        before = rows_of(book)
        with self.assertRaises(SaidError) as caught:
            getattr(book, deed)(*told)
        self.assertIs(type(caught.exception), error, told)
        self.assertEqual(rows_of(book), before, told)

    def test_no_name_at_each_place(self):
        for thing in ANY_THINGS:
            for book in (Book(), book_of(["a b c"], ["a b d"])):
                for deed, names in (("say_line", "abz"), ("say_apart", "aby"), ("say_meet", "pabcd")):
                    for place in range(len(names)):
                        told = list(names)
                        told[place] = thing
                        self.refused(NoName, book, deed, *told)

    def test_no_name_at_all_places(self):
        for thing in ANY_THINGS:
            self.refused(NoName, Book(), "say_line", thing, thing, thing)
            self.refused(NoName, Book(), "say_apart", thing, thing, thing)
            self.refused(NoName, Book(), "say_meet", thing, thing, thing, thing, thing)

    def test_two_alike(self):
        for deed in ("say_line", "say_apart"):
            for told in ("aab", "aba", "baa", "aaa"):
                self.refused(NoName, Book(), deed, *told)
                self.refused(NoName, book_of(["a b c"], ["a b d"]), deed, *told)

    def test_a_meet_of_names_alike(self):
        for told in ("aabcd", "abacd", "abcad", "abcda", "abbcd", "abcdd", "abbcc", "aabac"):
            self.refused(NoName, Book(), "say_meet", *told)
        for told in ("abcbc", "abccb", "acbbc", "acbcb"):
            self.refused(NoName, Book(), "say_meet", *told)

    def test_a_meet_of_like_pairs_that_is_a_line_already(self):
        self.refused(NoName, book_of(["a b c"]), "say_meet", "a", "b", "c", "c", "b")

    def test_a_line_that_stands_apart_and_an_apart_that_is_a_line(self):
        for told in itertools.permutations("abc"):
            self.refused(NoRow, book_of([], ["a b c"]), "say_line", *told)
            self.refused(NoRow, book_of(["a b c"]), "say_apart", *told)

    def test_a_line_that_stands_apart_by_others(self):
        self.refused(NoRow, book_of(["a b c"], ["a b d"], []), "say_line", "d", "c", "a")

    def test_a_meet_with_an_apart(self):
        for apart in ("p a b", "p c d"):
            for told in ("pabcd", "pbacd", "pcdab", "pdcba"):
                self.refused(NoRow, book_of([], [apart]), "say_meet", *told)
        self.refused(NoRow, book_of([], ["p a b", "p c d"]), "say_meet", *"pabcd")

    def test_an_eleventh_name(self):
        book = full_of_names()
        self.assertEqual(book.names(), TEN)
        for deed in ("say_line", "say_apart"):
            for told in ("kab", "akb", "abk", "akl", "klm"):
                self.refused(TooMany, book, deed, *told)
        for told in ("kabcd", "akbcd", "abkcd", "abckd", "abcdk", "klmno"):
            self.refused(TooMany, book, "say_meet", *told)

    def test_names_that_come_together_to_eleven(self):
        book = book_of(["a b c", "d e f"], ["a b g"])
        self.refused(TooMany, book, "say_meet", *"hijkl")
        self.refused(TooMany, book, "say_meet", *"hijak")
        book.say_meet(*"hijab")
        self.assertEqual(book.names(), TEN)
        book = book_of(["a b c", "d e f"], ["a b g", "a b h"])
        self.refused(TooMany, book, "say_line", *"ijk")
        self.refused(TooMany, book, "say_apart", *"ijk")
        book.say_apart(*"ija")
        self.assertEqual(book.names(), TEN)

    def test_a_name_of_aparts_alone_counts(self):
        book = book_of([], ["a b c", "d e f", "g h i", "a b j"])
        self.refused(TooMany, book, "say_line", *"abk")
        book.say_line(*"abi")

    def test_rows_of_the_ten_names_are_taken(self):
        book = full_of_names()
        book.say_line(*"jia")
        book.say_apart(*"jib")
        book.say_meet(*"jhgef")
        self.assertEqual(len(book.lines()), 6)

    def test_a_twenty_first_line(self):
        book = full_of_lines(20)
        self.assertEqual(len(book.lines()), 20)
        self.refused(TooMany, book, "say_line", *"agh")
        self.refused(TooMany, book, "say_meet", *"jafhg")
        self.refused(TooMany, book, "say_meet", *"abcgh")

    def test_the_twentieth_line_is_taken(self):
        book = full_of_lines(19)
        book.say_line(*"agh")
        self.assertEqual(len(book.lines()), 20)
        book = full_of_lines(18)
        book.say_meet(*"jafhg")
        self.assertEqual(len(book.lines()), 20)

    def test_a_meet_at_nineteen(self):
        book = full_of_lines(19)
        self.refused(TooMany, book, "say_meet", *"jafhg")
        self.refused(TooMany, book, "say_meet", *"jhgaf")
        book.say_meet(*"abcgh")
        self.assertEqual(len(book.lines()), 20)

    def test_what_is_there_is_taken_by_a_full_book(self):
        book = full_of_lines(20)
        before = rows_of(book)
        book.say_line(*"cba")
        book.say_meet(*"abcde")
        book.say_apart(*"ihg")
        self.assertEqual(rows_of(book), before)
        book.say_apart(*"agh")
        self.assertIn(("a", "g", "h"), book.aparts())

    def test_no_name_comes_ahead_of_all_else(self):
        book = full_of_lines(20)
        self.refused(NoName, book, "say_line", "a", "k", "A")
        self.refused(NoName, book, "say_line", "k", "k", "a")
        self.refused(NoName, book, "say_apart", "k", "l", "k")
        self.refused(NoName, book, "say_apart", None, "a", "b")
        # One pair is no row, the other one no name.
        self.refused(NoName, book, "say_meet", "g", "h", "i", "a", None)
        self.refused(NoName, book, "say_meet", "g", "h", "i", "a", "a")
        self.refused(NoName, book, "say_meet", "g", "h", "i", "k", "g")
        self.refused(NoName, book, "say_meet", "g", "h", "i", "i", "h")
        self.refused(NoName, book, "say_meet", "k", "l", "m", "m", "l")

    def test_no_row_comes_ahead_of_too_many(self):
        book = full_of_lines(20)
        self.refused(NoRow, book, "say_line", *"ghi")
        self.refused(NoRow, book, "say_meet", *"ghikl")
        self.refused(NoRow, book, "say_meet", *"gklhi")
        self.refused(NoRow, book, "say_meet", *"ghiab")
        self.refused(NoRow, book, "say_meet", *"gabhi")

    def test_too_many_names_and_lines_at_once(self):
        book = full_of_lines(20)
        self.refused(TooMany, book, "say_line", *"abk")
        self.refused(TooMany, book, "say_apart", *"abk")

    def test_a_refused_book_goes_on(self):
        book = book_of(["a b c"])
        self.refused(NoRow, book, "say_apart", *"abc")
        self.refused(NoName, book, "say_line", *"aab")
        book.say_line(*"ade")
        self.assertEqual(book.lines(), [("a", "b", "c"), ("a", "d", "e")])


class PlainBook:
    """A book by the words of the document, held against the program's."""

    def __init__(self):
        self.rows = {}

    def say(self, deed, told):
        if deed == "others":
            return self.say_others(told)
        names = [thing for thing in told if type(thing) is str and thing.isalpha() and thing.islower()]
        threes = [told[:3], [told[0]] + told[3:]] if deed == "meet" else [told]
        if len(names) < len(told) or any(len(set(three)) < 3 for three in threes):
            return NoName
        rows = [tuple(sorted(three)) for three in threes]
        if len(set(rows)) < len(rows):
            return NoName
        kind = "apart" if deed == "apart" else "line"
        if any(self.rows.get(row, kind) != kind for row in rows):
            return NoRow
        after = dict(self.rows)
        after.update((row, kind) for row in rows)
        if len({name for row in after for name in row}) > 10 or list(after.values()).count("line") > 20:
            return TooMany
        self.rows = after

    def say_others(self, but):
        for row in itertools.combinations(self.names(), 3):
            if row not in but:
                self.rows.setdefault(row, "apart")

    def names(self):
        return sorted({name for row in self.rows for name in row})

    def all_rows(self):
        lines = sorted(row for row in self.rows if self.rows[row] == "line")
        return (self.names(), lines, sorted(row for row in self.rows if self.rows[row] == "apart"))


class WalkTest(unittest.TestCase):
    def test_many_rows_one_behind_the_other(self):
        numbers = Numbers(21)
        seen = set()
        for walk in range(60):
            book, plain = Book(), PlainBook()
            words = list("abcdefghijklm")[:6 + numbers.below(8)] + ["aa", "ab"]
            for row in range(70):
                deed = numbers.picked(["line", "line", "apart", "meet", "meet"] if row % 23 != 22 else ["others"])
                if deed == "others":
                    told = list(itertools.combinations(sorted(words), 3))[numbers.below(9)::2]
                    book.say_others(told)
                    expected = plain.say(deed, told)
                else:
                    told = [numbers.picked(words) for number in range(5 if deed == "meet" else 3)]
                    if numbers.below(15) == 0:
                        told[numbers.below(len(told))] = numbers.picked([None, 7, "A", ["a"], ("a",), ""])
                    expected = plain.say(deed, told)
                    try:
                        found = getattr(book, "say_" + deed)(*told)
                    except SaidError as error:
                        found = type(error)
                    self.assertEqual(found, expected, (deed, told))
                seen.add((deed, expected))
                self.assertEqual(rows_of(book), plain.all_rows())
        self.assertLessEqual({("line", NoName), ("apart", NoRow), ("meet", NoRow), ("meet", TooMany)}, seen)


class OwnTest(unittest.TestCase):
    def test_told_lists_are_the_askers_own(self):
        book = book_of(["a b c", "a d e"], ["a b d", "b d e"])
        kept = copy.deepcopy(rows_of(book))
        for told in rows_of(book):
            told.append("z")
            told.pop(0)
        self.assertEqual(rows_of(book), kept)
        for told in rows_of(book):
            told.clear()
        book.say_others([])
        self.assertEqual(rows_of(book)[:2], kept[:2])
        self.assertEqual(len(book.aparts()), 8)

    def test_a_told_list_is_not_changed_later(self):
        book = book_of(["a b c"], ["a b d"])
        told = rows_of(book)
        kept = copy.deepcopy(told)
        book.say_line("a", "y", "z")
        book.say_others([])
        self.assertEqual(told, kept)

    def test_the_list_left_out_is_as_it_was_and_not_kept(self):
        book = book_of(["a b c"], ["a b d"])
        but = [("x", "y", "z"), ("a", "c", "d")]
        book.say_others(but)
        self.assertEqual(but, [("x", "y", "z"), ("a", "c", "d")])
        before = rows_of(book)
        but.clear()
        self.assertEqual(rows_of(book), before)

    def test_refused_things_are_as_they_were(self):
        things = copy.deepcopy(ANY_THINGS)
        for thing in ANY_THINGS:
            with self.assertRaises(NoName):
                Book().say_meet(thing, thing, thing, thing, thing)
        self.assertEqual(ANY_THINGS, things)


if __name__ == "__main__":
    unittest.main()
