import copy
import itertools
import unittest

from helper import (
    ANY_THINGS, CHAIN, DESARGUES, FANO, PAPPUS, Numbers, as_share, book_of, chain_book, expected_numbers,
    expected_plan, expected_points, expected_refutation, fourth_try_book, fraction, in_order, is_share, mixed_book,
    point, points_keep, rows_of, second_try_book, side_by_side_book, turned_by,
)
from linesaid.book import Book
from linesaid.drawings import Drawing
from linesaid.errors import NoName
from linesaid.plans import drawn, numbers_of, plan, refuted


def shares(*told):
    return [as_share(number) for number in told]


def rows(*texts):
    return [tuple(text.split()) for text in texts]


def points_of(drawing):
    return {name: drawing.place(name) for name in drawing.names()}


def lines_in_common_once(numbers, names, most):
    """At most so many lines, no two of which have two names in common."""
    taken, found = set(), []
    for row in numbers.mixed(itertools.combinations(names, 3)):
        pairs = set(itertools.combinations(row, 2))
        if not pairs & taken and len(found) < most:
            taken |= pairs
            found.append(" ".join(row))
    return found


class PlanTest(unittest.TestCase):
    def check(self, book, expected):
        before = rows_of(book)
        told = plan(book)
        self.assertEqual(told, expected)
        self.assertEqual((type(told), type(told[1])), (tuple, list))
        if told[0] == "plan":
            self.assertTrue(all(type(step) is tuple and type(step[1]) is list for step in told[1]))
        self.assertEqual(rows_of(book), before)

    def test_an_empty_book(self):
        self.check(Book(), ("plan", []))

    def test_aparts_alone(self):
        self.check(book_of([], ["c b a"]), ("plan", [("a", []), ("b", []), ("c", [])]))
        book = book_of([], ["d e f", "a b ab"])
        self.check(book, ("plan", [(name, []) for name in ("a", "ab", "b", "d", "e", "f")]))

    def test_one_line(self):
        self.check(book_of(["c b a"]), ("plan", [("a", []), ("b", []), ("c", rows("a b c"))]))
        book = book_of(["a b c"], ["x y b", "a b d"])
        self.check(book, ("plan", [("a", []), ("b", []), ("c", rows("a b c")), ("d", []), ("x", []), ("y", [])]))

    def test_two_lines_are_told_in_order(self):
        book = book_of(["z d c", "z b a"])
        steps = [("a", []), ("b", []), ("c", []), ("d", []), ("z", rows("a b z", "c d z"))]
        self.check(book, ("plan", steps))
        book = book_of(["p d e", "p a b"])
        self.check(book, ("plan", [("a", []), ("b", []), ("d", []), ("e", []), ("p", rows("a b p", "d e p"))]))

    def test_a_name_on_three_lines_waits(self):
        # z lies on three lines: g, h and so on, the last ones that lie on fewer, go ahead of it from the end.
        book = book_of(["a b z", "c d z", "e f z"])
        steps = [("a", []), ("b", []), ("c", []), ("d", []), ("e", []), ("z", rows("a b z", "c d z")),
                 ("f", rows("e f z"))]
        self.check(book, ("plan", steps))

    def test_the_last_one_in_order_is_taken(self):
        # Each name could be taken; the order is that of texts.
        book = book_of(["a aa ab"], ["b ba z"])
        steps = [("a", []), ("aa", []), ("ab", rows("a aa ab")), ("b", []), ("ba", []), ("z", [])]
        self.check(book, ("plan", steps))
        # y is taken only behind z, whose lines are then gone.
        book = book_of(["a y z", "b y z", "c y z", "a b c"])
        told = plan(book)
        self.assertEqual([name for name, lines in told[1]], ["a", "b", "y", "z", "c"])
        self.check(book, ("plan", [("a", []), ("b", []), ("y", []), ("z", rows("a y z", "b y z")),
                                   ("c", rows("a b c", "c y z"))]))

    def test_known_books(self):
        steps = [("a", []), ("b", []), ("c", rows("a b c")), ("d", []), ("e", []), ("f", rows("d e f")),
                 ("g", rows("a e g", "b d g")), ("h", rows("a f h", "c d h")), ("i", rows("b f i", "c e i"))]
        self.check(book_of(PAPPUS, others=["g h i"]), ("plan", steps))
        steps = [("a", []), ("b", []), ("c", []), ("d", []), ("e", []), ("o", rows("a d o", "b e o")),
                 ("f", rows("c f o")), ("p", rows("a b p", "d e p")), ("q", rows("b c q", "e f q")),
                 ("r", rows("a c r", "d f r"))]
        self.check(book_of(DESARGUES), ("plan", steps))
        steps = [("a", []), ("b", []), ("c", rows("a b c")), ("d", []), ("e", rows("a d e")),
                 ("g", rows("b e g", "c d g")), ("f", rows("a f g", "b d f"))]
        self.check(book_of(FANO), ("plan", steps))
        chain = [("a", []), ("b", [])] + [(row.split()[2], rows(row)) for row in CHAIN]
        self.check(chain_book(), ("plan", chain + [("x", []), ("y", [])]))

    def test_a_core_of_all(self):
        self.check(book_of(PAPPUS + ("g h i",)), ("core", list("abcdefghi")))
        self.check(book_of(DESARGUES + ("p q r",)), ("core", list("abcdefopqr")))
        self.check(book_of(FANO + ("c e f",)), ("core", list("abcdefg")))
        self.check(book_of(["a b c", "a b d", "a c d", "b c d"]), ("core", list("abcd")))
        self.check(book_of(["d c b", "d b a", "c b a", "d c a"]), ("core", list("abcd")))

    def test_a_core_of_some(self):
        four = ["b c x", "b c y", "b x y", "c x y"]
        self.check(book_of(four + ["a b z", "a d z"], ["p q r"]), ("core", list("bcxy")))
        # z lies on three lines, but on one only of names that are left.
        self.check(book_of(four + ["a b z", "d p z", "b y z"]), ("core", list("bcxy")))
        # On three lines of names that are left it stays.
        self.check(book_of(four + ["b c z", "b x z", "b y z"], ["a p q"]), ("core", list("bcxyz")))
        self.check(book_of(FANO + ("c e f", "a h i")), ("core", list("abcdefg")))

    def test_right_again_behind_a_further_row(self):
        book = book_of(["a b c", "a b d"])
        self.check(book, ("plan", [("a", []), ("b", []), ("c", rows("a b c")), ("d", rows("a b d"))]))
        book.say_line("a", "c", "d")
        self.check(book, ("plan", [("a", []), ("b", []), ("c", rows("a b c")), ("d", rows("a b d", "a c d"))]))
        book.say_apart("a", "e", "c")
        steps = [("a", []), ("b", []), ("c", rows("a b c")), ("d", rows("a b d", "a c d")), ("e", [])]
        self.check(book, ("plan", steps))
        book.say_line("b", "c", "d")
        self.check(book, ("core", list("abcd")))
        book.say_line("x", "y", "z")
        self.check(book, ("core", list("abcd")))

    def test_mixed_books(self):
        numbers = Numbers(81)
        seen = {"plan": 0, "core": 0}
        for number in range(300):
            many = 4 + numbers.below(7)
            threes = numbers.mixed(itertools.combinations("abcdefghij"[:many], 3))
            book = Book()
            for row in threes[:numbers.below(min(21, len(threes)))]:
                (book.say_line if numbers.below(6) else book.say_apart)(*numbers.mixed(row))
            told = plan(book)
            self.check(book, expected_plan(book))
            self.check_words(book, told)
            seen[told[0]] += 1
        self.assertGreater(min(seen.values()), 60, seen)

    def check_words(self, book, told):
        if told[0] == "core":
            inner = [row for row in book.lines() if set(row) <= set(told[1])]
            for name in told[1]:
                self.assertGreaterEqual(sum(name in row for row in inner), 3)
            self.assertEqual(told[1], sorted(set(told[1]) & set(book.names())))
            return
        names = [name for name, lines in told[1]]
        self.assertEqual(sorted(names), book.names())
        for place, (name, lines) in enumerate(told[1]):
            ahead = set(names[:place + 1])
            self.assertEqual(lines, [row for row in book.lines() if name in row and set(row) <= ahead])
            self.assertLessEqual(len(lines), 2)
        self.assertEqual(sorted(row for name, lines in told[1] for row in lines), book.lines())

    def test_a_core_means_that_there_is_no_order(self):
        numbers = Numbers(82)
        seen = {"plan": 0, "core": 0}
        for number in range(40):
            threes = numbers.mixed(itertools.combinations("abcdef", 3))
            book = book_of([" ".join(row) for row in threes[:5 + numbers.below(5)]])
            orders = itertools.permutations(book.names())
            expected = "plan" if any(self.is_order(book, names) for names in orders) else "core"
            self.assertEqual(plan(book)[0], expected)
            seen[expected] += 1
        self.assertGreater(min(seen.values()), 4, seen)

    def is_order(self, book, names):
        last = [max(row, key=names.index) for row in book.lines()]
        return all(last.count(name) <= 2 for name in names)

    def test_what_is_told_is_the_askers_own(self):
        for book in (book_of(PAPPUS), book_of(FANO + ("c e f",)), book_of([], ["a b c"]), Book()):
            told = plan(book)
            kept = copy.deepcopy(told)
            for step in told[1] if told[0] == "plan" else ():
                step[1].append("z")
            told[1].reverse()
            told[1].append("z")
            self.assertEqual(plan(book), kept)

    def test_no_list_stands_at_two_places(self):
        for book in (book_of(PAPPUS), book_of([], ["a b c"]), chain_book()):
            told = plan(book)
            inner = [id(lines) for name, lines in told[1]]
            self.assertEqual(len(set(inner)), len(inner))

    def test_what_is_told_is_not_changed_later(self):
        book = book_of(["a b c", "a b d"])
        told = plan(book)
        kept = copy.deepcopy(told)
        book.say_line("a", "c", "d")
        plan(book)
        self.assertEqual(told, kept)


class NumbersTest(unittest.TestCase):
    def test_written_out(self):
        first = [(-1, 1), (7, 2), (-4, 3), (-11, 1), (9, 2), (10, 3), (-8, 1), (1, 2), (-3, 1), (8, 1), (3, 1), (8, 3)]
        self.assertEqual(numbers_of(0, 12), first)
        self.assertEqual(numbers_of(1, 6), [(2, 1), (-7, 3), (11, 1), (-11, 2), (-4, 3), (9, 1)])
        self.assertEqual(numbers_of(2, 3), [(3, 1), (2, 1), (3, 2)])

    def test_by_the_rule(self):
        for k in list(range(36)) + [100, 10 ** 20]:
            for many in (0, 1, 2, 3, 7, 20, 50):
                told = numbers_of(k, many)
                self.assertIs(type(told), list)
                self.assertEqual(told, expected_numbers(k, many))
                self.assertTrue(all(is_share(one) for one in told))

    def test_shares_in_lowest_terms(self):
        # In try 21 the tops are all -11; in try 0 the number 8 is -9 over 3.
        self.assertEqual(numbers_of(0, 9)[8], (-3, 1))
        self.assertIn((0, 1), [one for k in range(30) for one in numbers_of(k, 20)])
        self.assertEqual(numbers_of(21, 6), [(-11, 1), (-11, 2), (-11, 3)] * 2)
        self.assertEqual(numbers_of(2, 11)[10], (0, 1))

    def test_none_asked_for(self):
        for k in range(31):
            self.assertEqual(numbers_of(k, 0), [])

    def test_what_is_told_is_the_askers_own(self):
        told = numbers_of(3, 5)
        told[0] = (1, 1)
        told.append(None)
        self.assertEqual(numbers_of(3, 5), expected_numbers(3, 5))


class DrawnTest(unittest.TestCase):
    def check(self, book, numbers, expected):
        before = copy.deepcopy((rows_of(book), numbers))
        told = drawn(book, numbers)
        self.assertEqual((rows_of(book), numbers), before)
        if expected is None:
            self.assertIsNone(told)
        else:
            self.assertIs(type(told), Drawing)
            self.assertEqual(points_of(told), expected)
            self.assertEqual(told.built(), book.lines())
        return told

    def test_names_without_lines(self):
        book = book_of([], ["a b c"])
        expected = {"a": point(1, 2), "b": point(3, 4), "c": point(5, "6/7")}
        self.check(book, shares(1, 2, 3, 4, 5, "6/7"), expected)
        # Whether aparts are kept doesn't matter here.
        self.check(book, shares(1, 1, 1, 1, 1, 1), {name: point(1, 1) for name in "abc"})

    def test_a_name_with_one_line(self):
        expected = {"a": point(1, 2), "b": point(3, 8), "c": point(2, 5)}
        self.check(book_of(["a b c"]), shares(1, 2, 3, 8, "1/2"), expected)
        for t, place in ((0, point(1, 2)), (1, point(3, 8)), (-1, point(-1, -4)), ("7/3", point("17/3", 16))):
            self.check(book_of(["c a b"]), shares(1, 2, 3, 8, t), {**expected, "c": place})

    def test_the_other_two_names_are_in_order(self):
        # z lies on three lines, so it comes ahead of f, which lies on e z: from e to z, not from z to e.
        book = book_of(["a b z", "c d z", "e f z"])
        told = drawn(book, shares(0, 0, 2, 2, 0, 2, 2, 0, 5, 1, "1/4"))
        self.assertEqual(told.place("z"), point(1, 1))
        self.assertEqual(told.place("f"), point(4, 1))

    def test_a_name_with_two_lines(self):
        book = book_of(["a b z", "c d z"])
        expected = {"a": point(0, 0), "b": point(2, 2), "c": point(0, 2), "d": point(2, 0), "z": point(1, 1)}
        self.check(book, shares(0, 0, 2, 2, 0, 2, 2, 0), expected)
        # Two lines with a name in common meet in its point.
        book = book_of(["a b z", "a c z"])
        self.check(book, shares(1, 2, 3, 4, 0, 7),
                   {"a": point(1, 2), "b": point(3, 4), "c": point(0, 7), "z": point(1, 2)})

    def test_all_three(self):
        told = shares(0, 0, 1, 0, 3, 0, 3, 2, 4, "7/2")
        expected = {"a": point(0, 0), "b": point(1, 0), "c": point(3, 0), "d": point(0, 3), "e": point(2, 4),
                    "f": point(7, "13/2"), "g": point("3/5", "6/5")}
        found = drawn(book_of(PAPPUS), told)
        self.assertEqual({name: found.place(name) for name in expected}, expected)
        self.check(book_of(PAPPUS), told, points_of(found))
        self.assertEqual(found.names(), list("abcdefghi"))

    def test_numbers_that_just_suffice(self):
        for book, many in ((Book(), 0), (book_of([], ["a b c"]), 6), (book_of(["a b c"]), 5), (book_of(PAPPUS), 10),
                           (book_of(["a b z", "c d z"]), 8), (book_of(DESARGUES), 11), (chain_book(), 14)):
            told = numbers_of(1, 40)
            found = drawn(book, told[:many])
            self.check(book, told[:many], points_of(found))
            for more in (1, 2, 30 - many):
                self.check(book, told[:many + more], points_of(found))
            for fewer in range(many):
                self.check(book, told[:fewer], None)

    def test_none_where_points_are_alike(self):
        self.check(book_of(["a b c"]), shares(1, 2, 1, 2, 3), None)
        self.check(book_of(["a b c"]), shares(1, 2, 1, "5/2", 3),
                   {"a": point(1, 2), "b": point(1, "5/2"), "c": point(1, "7/2")})
        # c at a, so that nothing lies between a and c.
        self.check(book_of(["a b c", "a c d"]), shares(1, 2, 3, 4, 0, 5), None)

    def test_none_where_there_is_no_one_meet(self):
        book = book_of(["a b z", "c d z"])
        self.check(book, shares(0, 0, 1, 1, 0, 2, 1, 3), None)
        self.check(book, shares(0, 0, 1, 1, 2, 2, 3, 3), None)
        self.check(book, shares(0, 0, 0, 0, 2, 2, 3, 5), None)
        self.check(book, shares(2, 2, 3, 5, 0, 0, 0, 0), None)
        self.check(book_of(["a b z", "a c z"]), shares(0, 0, 1, 1, 2, 2), None)

    def test_a_step_in_the_midst_that_can_not_be_made(self):
        self.check(book_of(["a b c"], ["x y z"]), shares(1, 2, 1, 2, 3, 4, 5, 6, 7, 8, 9), None)
        self.check(book_of(PAPPUS), shares(0, 0, 0, 0, 3, 0, 3, 2, 4, 1), None)
        self.check(book_of(PAPPUS), shares(0, 0, 2, 0, 3, 2, 2, 0, 2, 1), None)

    def test_no_plan(self):
        for book in (book_of(PAPPUS + ("g h i",)), book_of(["a b c", "a b d", "a c d", "b c d"])):
            for many in (0, 1, 8, 40):
                self.check(book, numbers_of(0, many), None)

    def test_an_empty_book(self):
        self.check(Book(), [], {})
        self.check(Book(), shares(1, 2, 3), {})

    def test_each_call_has_a_drawing_of_its_own(self):
        book = book_of(["a b c"])
        told = shares(1, 2, 3, 8, "1/2")
        one = drawn(book, told)
        other = drawn(book, told)
        one.put("z", *point(0, 0))
        one.on("y", "a", "b", (1, 3))
        self.assertEqual(other.names(), ["a", "b", "c"])
        self.check(book, told, {"a": point(1, 2), "b": point(3, 8), "c": point(2, 5)})
        told[0] = (9, 1)
        told.clear()
        book.say_line("a", "b", "z")
        self.assertEqual(points_of(other), {"a": point(1, 2), "b": point(3, 8), "c": point(2, 5)})

    def test_right_again_behind_a_further_row(self):
        book = book_of(["a b c"])
        told = shares(1, 2, 3, 8, "1/2", "1/4", 7)
        self.check(book, told, {"a": point(1, 2), "b": point(3, 8), "c": point(2, 5)})
        book.say_line("b", "c", "d")
        self.check(book, told, {"a": point(1, 2), "b": point(3, 8), "c": point(2, 5), "d": point("11/4", "29/4")})
        book.say_apart("a", "d", "e")
        self.check(book, told, None)

    def test_long_numbers(self):
        numbers = Numbers(83)
        book = book_of(["a b e", "c d e", "a c f", "b d f", "a d g", "b c g", "e f h", "a g h", "e g i", "f h i",
                        "h i j", "f g j"])
        told = [numbers.share(10 ** 60 - 1) for number in range(8)]
        expected = expected_points(book, told)
        found = drawn(book, told)
        self.assertEqual(points_of(found), {name: (as_share(x), as_share(y)) for name, (x, y) in expected.items()})
        self.assertTrue(found.keeps(book))

    def test_mixed_books(self):
        numbers = Numbers(84)
        seen = {}
        for number in range(400):
            names = "abcdefghij"[:4 + numbers.below(7)]
            book = book_of(lines_in_common_once(numbers, names, 9) if number % 2 else
                           [" ".join(row) for row in numbers.mixed(itertools.combinations(names, 3))[:4]])
            if number % 3 == 0 and len(book.names()) < 8:
                book.say_apart("y", "z", numbers.picked(names))
            told = [numbers.share(1 + numbers.below(3)) for place in range(numbers.below(25))]
            expected = expected_points(book, told)
            if expected is not None:
                expected = {name: (as_share(x), as_share(y)) for name, (x, y) in expected.items()}
            found = self.check(book, told, expected)
            kind = (plan(book)[0], found is not None, len(told) > 15)
            seen[kind] = seen.get(kind, 0) + 1
        self.assertGreater(seen["plan", True, True], 30, seen)
        self.assertGreater(seen["plan", True, False], 10, seen)
        self.assertGreater(seen["plan", False, True], 30, seen)
        self.assertGreater(seen["core", False, True], 3, seen)


class RefutedTest(unittest.TestCase):
    def check(self, book, claim, tries):
        """Held against the points of a second telling; tells the number of the try."""
        before = rows_of(book)
        told = refuted(book, *claim, tries)
        self.assertEqual(rows_of(book), before)
        number, expected = expected_refutation(book, claim, tries)
        if number is None:
            self.assertIsNone(told)
        else:
            self.assertIs(type(told), Drawing)
            self.assertEqual(points_of(told), expected)
            self.assertTrue(told.keeps(book))
            self.assertTrue(points_keep(book, {name: tuple(map(fraction, expected[name])) for name in expected}))
            self.assertNotEqual(turned_by(*[tuple(map(fraction, told.place(name))) for name in claim]), 0)
            self.assertEqual(told.built(), book.lines())
        return number

    def test_by_the_first_try(self):
        book = book_of([], ["a b c"])
        for tries in (1, 2, 30):
            self.assertEqual(self.check(book, "abc", tries), 0)
        told = refuted(book, "a", "b", "c", 1)
        self.assertEqual(points_of(told), {"a": point(-1, "7/2"), "b": point("-4/3", -11), "c": point("9/2", "10/3")})
        self.assertEqual(self.check(book_of(PAPPUS[1:], others=["g h i"]), "ghi", 1), 0)
        self.assertIsNone(self.check(book_of(DESARGUES, others=[]), "abc", 1))
        self.assertEqual(self.check(book_of(DESARGUES, others=["p q r"]), "abc", 1), 0)

    def test_by_a_later_try(self):
        for book, number in ((second_try_book(), 1), (fourth_try_book(), 3)):
            for claim in book.aparts()[::7]:
                for tries in range(number + 1):
                    self.assertIsNone(self.check(book, claim, tries))
                for tries in (number + 1, number + 2, 30):
                    self.assertEqual(self.check(book, claim, tries), number)

    def test_by_none(self):
        for tries in (0, 1, 30):
            self.assertIsNone(self.check(book_of(PAPPUS, others=["g h i"]), "ghi", tries))
            self.assertIsNone(self.check(book_of(PAPPUS, others=[]), "abd", tries))
        self.assertIsNone(self.check(side_by_side_book(), "afg", 30))
        self.assertIsNone(self.check(chain_book(), "fgh", 30))

    def test_no_plan(self):
        for tries in (0, 1, 30):
            self.assertIsNone(self.check(book_of(PAPPUS + ("g h i",), others=[]), "abd", tries))
            self.assertIsNone(self.check(book_of(FANO + ("c e f",)), "abd", tries))

    def test_no_try(self):
        for book, claim in ((book_of([], ["a b c"]), "abc"), (book_of(PAPPUS[1:]), "ghi")):
            self.assertIsNone(self.check(book, claim, 0))
            self.assertIsNotNone(self.check(book, claim, 1))

    def test_a_line(self):
        for book in (book_of(["a b c"]), book_of(PAPPUS, others=["g h i"]), chain_book()):
            for line in book.lines():
                self.assertIsNone(self.check(book, line, 30))

    def test_a_triple_of_which_nothing_is_said(self):
        self.assertEqual(self.check(book_of(["a b c", "a d e"]), "bde", 1), 0)
        self.assertEqual(self.check(book_of(["a b c"], ["c d e"]), "abe", 1), 0)
        # It is on one line in each try that keeps the book, but is not said to be.
        self.assertIsNone(self.check(book_of(["a b c", "a b d"]), "acd", 30))

    def test_names_in_any_order(self):
        book = second_try_book()
        expected = points_of(refuted(book, "a", "b", "d", 2))
        for told in itertools.permutations("abd"):
            self.assertIsNone(refuted(book, *told, 1))
            self.assertEqual(points_of(refuted(book, *told, 2)), expected)

    def test_somewhat_more_tries(self):
        self.assertIsNone(self.check(side_by_side_book(), "afg", 33))
        self.assertEqual(self.check(second_try_book(), "abd", 33), 1)

    def test_right_again_behind_a_further_row(self):
        book = book_of(PAPPUS[1:], others=["g h i", "a b c"])
        self.assertEqual(self.check(book, "ghi", 1), 0)
        book.say_line("a", "b", "c")
        self.assertIsNone(self.check(book, "ghi", 30))
        self.assertIsNone(refuted(book, "g", "h", "i", 30))

    def test_mixed_books(self):
        numbers = Numbers(85)
        seen = {}
        for number in range(150):
            if number % 2:
                book = mixed_book(numbers, 5 + numbers.below(4), numbers.below(5), 3)
            else:
                names = "abcdefgh"[:6 + numbers.below(3)]
                book = book_of(lines_in_common_once(numbers, names, 5), others=[])
            claim = numbers.picked(list(itertools.combinations(book.names(), 3)))
            found = self.check(book, claim, numbers.picked([1, 2, 30]))
            seen[found] = seen.get(found, 0) + 1
        self.assertGreater(seen[0], 30, seen)
        self.assertGreater(seen[None], 30, seen)

    def test_each_call_has_a_drawing_of_its_own(self):
        book = second_try_book()
        one = refuted(book, *"abd", 2)
        kept = points_of(one)
        one.put("z", *point(0, 0))
        self.assertEqual(points_of(refuted(book, *"abd", 2)), kept)


class RefusalTest(unittest.TestCase):
    def refused(self, book, *told):
        before = rows_of(book)
        for tries in (0, 1, 30):
            with self.assertRaises(NoName):
                refuted(book, *told, tries)
        self.assertEqual(rows_of(book), before)

    def test_a_thing_that_is_no_name(self):
        things = copy.deepcopy(ANY_THINGS)
        for thing in ANY_THINGS:
            for book in (Book(), book_of(["a b c"], ["a b d"]), book_of(FANO + ("c e f",))):
                for place in range(3):
                    told = list("acd")
                    told[place] = thing
                    self.refused(book, *told)
                self.refused(book, thing, thing, thing)
        self.assertEqual(ANY_THINGS, things)

    def test_a_name_that_the_book_has_not(self):
        for book in (book_of(["a b c"], ["a b d"]), book_of(FANO + ("c e f",))):
            for name in ("z", "aa", "h", "abcdefgh"):
                for place in range(3):
                    told = list("acd")
                    told[place] = name
                    self.refused(book, *told)
        self.refused(Book(), "a", "b", "c")

    def test_two_alike(self):
        for told in ("aac", "aca", "caa", "aaa"):
            self.refused(book_of(["a b c"], ["a b d"]), *told)
            self.refused(book_of(FANO + ("c e f",)), *told)

    def test_a_name_that_comes_by_a_later_row(self):
        book = book_of(["a b c"])
        self.refused(book, "a", "b", "z")
        book.say_apart("a", "b", "z")
        self.assertEqual(in_order(*refuted(book, "a", "b", "z", 1).names()), ("a", "b", "c", "z"))


if __name__ == "__main__":
    unittest.main()
