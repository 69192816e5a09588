import copy
import itertools
import unittest

from helper import (
    ANY_THINGS, DESARGUES, FANO, PAPPUS, Numbers, book_of, chain_book, expected_refutation, expected_targets,
    expected_exchanges, expected_vector, fourth_try_book, fraction, in_order, is_point, mixed_book, points_keep,
    rows_of, second_try_book, side_by_side_book, turned_by, weights_hold,
)
from linesaid.answers import settled
from linesaid.book import Book
from linesaid.errors import NoName
from linesaid.finding import in_rounds
from linesaid.grounds import stands


def pappus(*gone):
    """The book of Pappus without some of its lines, all other triples apart but for these and the claim."""
    return book_of([row for row in PAPPUS if row not in gone], others=["g h i", *gone])


class SettledTest(unittest.TestCase):
    def check(self, book, claim, rounds, tries, kind=None):
        before = rows_of(book)
        told = settled(book, *claim, rounds, tries)
        self.assertEqual(rows_of(book), before)
        self.assertEqual((type(told), len(told)), (tuple, 2))
        ground = in_rounds(book, *claim, rounds)
        number, points = expected_refutation(book, in_order(*claim), tries)
        if ground[0] == "ground":
            self.assertEqual(told, ("grounded", ground[1]))
            self.assertIsNone(number)
            self.assertTrue(stands(book, told[1]))
        elif number is not None:
            self.assertEqual(told, ("refuted", points))
            self.check_points(book, claim, told[1])
        else:
            self.assertEqual(told, ("open", ground[1]))
            self.assertEqual([target for target, weights in told[1]], expected_targets(book, in_order(*claim)))
        if kind is not None:
            self.assertEqual(told[0], kind)
        return told

    def check_points(self, book, claim, points):
        self.assertIs(type(points), dict)
        self.assertEqual(sorted(points), book.names())
        self.assertTrue(all(is_point(one) for one in points.values()))
        exact = {name: tuple(map(fraction, one)) for name, one in points.items()}
        self.assertTrue(points_keep(book, exact))
        self.assertNotEqual(turned_by(*[exact[name] for name in claim]), 0)

    def test_grounded(self):
        for rounds in range(4):
            for tries in (0, 1, 30):
                told = self.check(pappus(), "ghi", rounds, tries, "grounded")
                self.assertEqual(len(told[1]), 1)
                self.check(book_of(DESARGUES, others=["p q r"]), "pqr", rounds, tries, "grounded")

    def test_a_line_is_grounded_without_steps(self):
        for rounds in range(4):
            for tries in (0, 30):
                self.assertEqual(settled(pappus(), *"abc", rounds, tries), ("grounded", []))
                self.assertEqual(settled(book_of(["a b c"]), *"cab", rounds, tries), ("grounded", []))

    def test_grounded_in_as_many_rounds_as_are_needed(self):
        for claim, wanted in (("acd", 0), ("ace", 1), ("abf", 2), ("efg", 3), ("fgh", 4)):
            for rounds in range(5):
                for tries in (0, 30):
                    kind = "grounded" if rounds >= wanted else "open"
                    self.check(chain_book(), claim, rounds, tries, kind)

    def test_refuted(self):
        for gone in PAPPUS:
            for rounds in (0, 3):
                for tries in (1, 30):
                    self.check(pappus(gone), "ghi", rounds, tries, "refuted")
        self.check(book_of(FANO, others=["c e f"]), "cef", 3, 1, "refuted")
        self.check(book_of([], ["a b c"]), "abc", 0, 1, "refuted")
        self.check(chain_book(), "axy", 3, 1, "refuted")

    def test_written_out(self):
        told = settled(book_of([], ["a b c"]), "c", "a", "b", 0, 1)
        points = {"a": ((-1, 1), (7, 2)), "b": ((-4, 3), (-11, 1)), "c": ((9, 2), (10, 3))}
        self.assertEqual(told, ("refuted", points))

    def test_refuted_by_as_many_tries_as_are_needed(self):
        for book, claim, wanted in ((second_try_book(), "abd", 2), (fourth_try_book(), "abc", 4),
                                    (pappus("a b c"), "ghi", 1)):
            for rounds in (0, 2):
                for tries in range(6):
                    self.check(book, claim, rounds, tries, "refuted" if tries >= wanted else "open")
                self.check(book, claim, rounds, 30, "refuted")

    def test_open(self):
        for rounds in range(4):
            self.check(side_by_side_book(), "afg", rounds, 30, "open")
            self.check(pappus("a b c"), "ghi", rounds, 0, "open")
            # Neither a try nor a round more is made than is asked for.
            self.check(second_try_book(), "abd", rounds, 1, "open")
        self.check(chain_book(), "efg", 2, 30, "open")

    def test_open_with_weights(self):
        for book, claim in ((pappus("a b c"), "ghi"), (side_by_side_book(), "afg")):
            told = self.check(book, claim, 0, 0, "open")
            vectors = [expected_vector(one) for one in expected_exchanges(book)]
            self.assertGreater(len(told[1]), 10)
            for target, weights in told[1]:
                self.assertTrue(weights_hold(vectors, expected_vector(target), weights))

    def test_open_without_targets(self):
        self.assertEqual(settled(book_of(["a b c", "a b d"]), *"acd", 3, 30), ("open", []))
        self.assertEqual(settled(book_of([], ["a b c"]), *"abc", 3, 0), ("open", []))

    def test_a_book_without_a_plan(self):
        self.check(book_of(FANO + ("c e f",)), "abd", 1, 30, "open")
        self.check(book_of(PAPPUS + ("g h i",), others=[]), "abd", 0, 30, "open")

    def test_a_triple_that_is_apart(self):
        # Grounded only where no drawing keeps the book; else refuted.
        self.check(book_of(PAPPUS, others=[]), "ghi", 0, 30, "grounded")
        self.check(pappus(), "abd", 3, 1, "refuted")

    def test_names_in_any_order(self):
        for book, claim, tries in ((pappus(), "ghi", 2), (pappus("d e f"), "ghi", 2), (second_try_book(), "abd", 1)):
            expected = settled(book, *claim, 1, tries)
            for told in itertools.permutations(claim):
                self.assertEqual(settled(book, *told, 1, tries), expected)

    def test_somewhat_more_rounds_and_tries(self):
        self.check(side_by_side_book(), "afg", 0, 33, "open")
        self.check(chain_book(), "fgh", 5, 32, "grounded")

    def test_right_again_behind_further_rows(self):
        book = pappus("a b c")
        self.check(book, "ghi", 0, 30, "refuted")
        book.say_line("a", "b", "c")
        self.check(book, "ghi", 0, 30, "grounded")
        book.say_line("g", "h", "i")
        self.assertEqual(settled(book, *"ghi", 0, 30), ("grounded", []))

    def test_mixed_books(self):
        numbers = Numbers(91)
        kinds = {"grounded": 0, "refuted": 0, "open": 0}
        for number in range(60):
            book = mixed_book(numbers, 5 + numbers.below(3), 1 + numbers.below(4), 3 + numbers.below(6))
            for claim in numbers.mixed(itertools.combinations(book.names(), 3))[:4]:
                told = self.check(book, claim, numbers.below(4), numbers.picked([0, 1, 2, 30]))
                kinds[told[0]] += 1
        self.assertGreater(min(kinds.values()), 20, kinds)


class RefusalTest(unittest.TestCase):
    def refused(self, book, *told):
        before = rows_of(book)
        for rounds, tries in ((0, 0), (0, 30), (3, 0), (3, 30)):
            with self.assertRaises(NoName):
                settled(book, *told, rounds, tries)
        self.assertEqual(rows_of(book), before)

    def test_a_thing_that_is_no_name(self):
        things = copy.deepcopy(ANY_THINGS)
        for thing in ANY_THINGS:
            for book in (Book(), book_of(["a b c"], ["a b d"])):
                for place in range(3):
                    told = list("acd")
                    told[place] = thing
                    self.refused(book, *told)
                self.refused(book, thing, thing, thing)
        self.assertEqual(ANY_THINGS, things)

    def test_a_name_that_the_book_has_not(self):
        for name in ("z", "aa", "h", "abcdefgh"):
            for place in range(3):
                told = list("abc")
                told[place] = name
                self.refused(book_of(["a b c"], ["a b d"]), *told)
        self.refused(Book(), "a", "b", "c")

    def test_two_alike(self):
        for told in ("aac", "aca", "caa", "aaa"):
            self.refused(book_of(["a b c"], ["a b d"]), *told)


class OwnTest(unittest.TestCase):
    CASES = (
        (lambda: pappus(), "ghi", 1, 2),
        (lambda: chain_book(), "efg", 3, 0),
        (lambda: chain_book(), "fgh", 3, 1),
        (lambda: pappus("a b c"), "ghi", 0, 0),
        (lambda: second_try_book(), "abd", 0, 30),
        (lambda: pappus(), "abc", 0, 30),
    )

    def test_what_is_told_is_the_askers_own(self):
        for made, claim, rounds, tries in OwnTest.CASES:
            book = made()
            told = settled(book, *claim, rounds, tries)
            kept = copy.deepcopy(told)
            if told[0] == "refuted":
                told[1]["a"] = None
                told[1].pop("b")
            else:
                for one in told[1]:
                    one[-1].clear()
                told[1].append("z")
            self.assertEqual(settled(book, *claim, rounds, tries), kept)

    def test_what_is_told_is_not_changed_later(self):
        for made, claim, rounds, tries in OwnTest.CASES:
            book = made()
            told = settled(book, *claim, rounds, tries)
            kept = copy.deepcopy(told)
            settled(book, *claim, 3, 30)
            book.say_others([])
            settled(book, *claim, rounds, tries)
            self.assertEqual(told, kept)

    def test_no_list_or_dict_stands_at_two_places(self):
        for made, claim, rounds, tries in OwnTest.CASES:
            told = settled(made(), *claim, rounds, tries)
            if told[0] != "refuted":
                inner = [id(one[-1]) for one in told[1]]
                self.assertEqual(len(set(inner)), len(inner))


if __name__ == "__main__":
    unittest.main()
